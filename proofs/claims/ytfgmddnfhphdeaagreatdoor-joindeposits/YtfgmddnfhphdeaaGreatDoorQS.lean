/- A part. -/
import Derived.Test.YtfgmddnfhphdeaaGreatDoorJnC
import Derived.Test.YtfgmddnfhphdeaaGreatDoorQR
import Derived.Test.YtfgmddnfhphdeaaGreatDoorQT
import Derived.Test.YtfgmddnfhphdeaaGreatDoorMaD
import Derived.Test.YtfgmddnfhphdeaaGreatDoorQN
import Derived.Test.YtfgmddnfhphdeaaGreatDoorQK
import Derived.Test.YtfgmddnfhphdeaaGreatDoorQG
namespace Go.Proofs.YtfgmddnfhphdeaaGreatDoor
open Go.RowKit
set_option linter.unusedVariables false
set_option linter.unusedSimpArgs false
section
open Go.RowKit
set_option linter.unusedVariables false
set_option linter.unusedSimpArgs false
set_option maxRecDepth 20000
attribute [local go_sem ↓] lvState_eq lv24_eq sv24_eq lvExit_eq lvSignedExit_eq svState_eq bdState_eq bs22_eq
set_option maxHeartbeats 8000000 in
theorem exit_prog (x : VState) (s : VSignedExit) (a : Option Addr) (n cap : Nat) (f : Nat → Int) (w : World) (hx : OkState x) (hw : InW w x) (hn : NilW x) (hl : Lns x) (hs : OkSignedExit s) (hr : Rts w a n cap f) (hnn : n ≤ 9223372036854775807) (hS : Sh w) :
    Calls Tryz.prog 11 #[.agg (cel (sState x)),.agg (cel (sSignedExit s)),.slice a n cap] w (ExA x s f n w):=by
 obtain ⟨W0,hW0⟩:∃ W,((w.alloc (.cells (cel (sState x)) 49)).alloc (.cells (cel (sSignedExit s)) 72)).alloc (.cells (cel (sState oState)) 49)=W:=⟨_,rfl⟩
 have r0:W0.heap[w.heap.size]?=some (.cells (cel (sState x)) 49):=by rw [←hW0];exact (heap_old (by simp<;>omega)).trans ((heap_old (by simp)).trans (heap_new rfl))
 have r1:W0.heap[w.heap.size+1]?=some (.cells (cel (sSignedExit s)) 72):=by rw [←hW0];exact (heap_old (by simp)).trans (heap_new (by simp))
 have r2:W0.heap[w.heap.size+2]?=some (.cells (cel (sState oState)) 49):=by rw [←hW0];exact heap_new (by simp)
 have hB0:Up w W0:=by rw [←hW0];exact (((Below.refl _ _).alloc (Nat.le_refl _) _).alloc (by simp) _).alloc (by simp<;>omega) _
 have hri:=right_any x W0 hx.r' (hw.below hB0).r' hl
 have lx:=lvState_run r0
 have z:=zeroState
 have bz:=bdState_0
 have HB:=hid hB0
 have HW:=hid hW0
 have R0:=hid r0
 have R1:=hid r1
 have R2:=hid r2
 unfold ExA
 cases hR:rightB x
 ·rw [hR] at hri
  have HRI:=hid hri
  have eP:exP x s.f0=1:=by unfold exP;rw [hR];rfl
  have eK:exK x s=0:=by unfold exK;rw [eP];rfl
  have eE:exE x s f n=1:=by unfold exE;rw [eP];rfl
  have eS:exS x s f n=oState:=by unfold exS;rw [eE];rfl
  rw [eK,eE,eS]
  clear hri hB0 hW0 r0 r1 r2 hx hw hn hl hs hr hnn hS eP eK eE eS
  go_enter Tryz.func11,Tryz.ntmps11
  go_upto_region 1 with fail
  rw [HW.out]
  clear HW z
  go_wp2_with (go_at_call 14;refine HRI.out.mono ?_;rintro e' w1 ⟨rfl,hu⟩;have s1:=svState_run (upR hu R2.out) oState)
  exact retState3 6 7 8 (w.heap.size+2) oState 49 (.slice none 0 0) (.int .i64 1) rfl rfl rfl rfl rfl (setRow_at (upR hu R2.out)) ⟨oState,none,0,rfl,resO _ _,.inl ⟨rfl,rfl,rfl⟩,.inl rfl,below_row (upT HB.out hu) (by omega) _⟩
 ·rw [hR] at hri
  have HRI:=hid hri
  have hck:∀ W,Up w W→Calls Tryz.prog 30 #[.agg (cel (sState x)),.agg (cel (sExit s.f0))] W fun e' w'=>e'=.returned (.int .i64 (exP x s.f0))∧Below W.heap.size W w':=fun W h=>by
   have:=chk_any x s.f0 W hx (hw.below h) hR hs.1
   unfold exP
   rw [hR,if_pos rfl]
   exact this
  have hle:∀ W,Up W0 W→(lvExit ⟨w.heap.size+1,0,none⟩).run Tryz.prog W=.ok (.agg (cel (sExit s.f0))) W:=fun W h=>se_head (upR h r1)
  by_cases hP:exP x s.f0=0
  ·have hC:exC x s.f0=0:=by unfold exP at hP;rw [hR,if_pos rfl] at hP;exact hP
   obtain ⟨k,ek,hk,-,-⟩:=exC_cases x s.f0 hs.1.2.1 hC
   have eK:exK x s=1:=by unfold exK;rw [hP];rfl
   have eE:exE x s f n=if gdB (exQ x s) f n=true then lqE x s.f0.f1 else 25:=by unfold exE;rw [hP];rfl
   have hqu:∀ W,Up w W→Calls Tryz.prog 31 #[.agg (cel (sState x)),.agg (cel (sSignedExit s))] W fun e' w'=>e'=.returned (.agg (vs .u8 32 (exQ x s)))∧Below W.heap.size W w':=fun W h=>xq_any x s k W hx (hw.below h) hk ek hs (hS.below h)
   have hgo:=fun (W:World) (h:Up w W)=>goo_prog (exQ x s) f a n cap W (hr.below h) hnn
   have hlq:∀ W,Up w W→Calls Tryz.prog 33 #[.agg (cel (sState x)),.int .u64 s.f0.f1] W fun e' w'=>∃ X,e'=.returned (.tuple #[.agg (cel (sState X)),.int .i64 (lqE x s.f0.f1)])∧Res W.heap.size w' (lqS x s.f0.f1) X∧Below W.heap.size W w':=fun W h=>leave_prog x s.f0.f1 W hx (hw.below h) hn hl hs.1.2.1
   rw [hP] at hck
   rw [eK]
   have hyb:gdB (exQ x s) f n=true→exE x s f n=lqE x s.f0.f1∧exS x s f n=lqS x s.f0.f1:=fun h=>by
    have e1:exE x s f n=lqE x s.f0.f1:=by rw [eE,if_pos h]
    refine ⟨e1,?_⟩
    unfold exS
    rw [e1]
    unfold lqS
    split<;>rfl
   have hyn:gdB (exQ x s) f n=false→exE x s f n=25∧exS x s f n=oState:=fun h=>by
    have e1:exE x s f n=25:=by rw [eE,h];rfl
    refine ⟨e1,?_⟩
    unfold exS
    rw [e1]
    rfl
   obtain ⟨EE,eEE⟩:∃ q,exE x s f n=q:=⟨_,rfl⟩
   obtain ⟨RS,eRS⟩:∃ q,exS x s f n=q:=⟨_,rfl⟩
   rw [eEE,eRS] at hyb hyn ⊢
   obtain ⟨QV,eQ⟩:∃ q,exQ x s=q:=⟨_,rfl⟩
   rw [eQ] at hqu hyb hyn ⊢
   simp only [eQ] at hgo
   have HCK:=hid hck
   have HLE:=hid hle
   have HQU:=hid hqu
   have HGO:=hid hgo
   have HLQ:=hid hlq
   have HYB:=hid hyb
   have HYN:=hid hyn
   clear hri hck hle hqu hgo hlq hyb hyn hB0 hW0 r0 r1 r2 hx hw hn hl hs hr hnn hS eK eE hP hC hk ek eQ eEE eRS
   go_enter Tryz.func11,Tryz.ntmps11
   go_upto_region 1 with fail
   rw [HW.out]
   clear HW
   go_upto_region 3 with (go_at_call 14;refine HRI.out.mono ?_;rintro e' w1 ⟨rfl,hb1⟩;have lx1:=lvState_run (upR hb1 R0.out);have le1:=HLE.out w1 hb1)
   have HU1:=hid hb1
   have HC1:=hid (HCK.out w1 (upT HB.out hb1))
   clear hb1 HRI HCK lx HLE
   go_upto_region 6 with (go_at_call 30;refine HC1.out.mono ?_;rintro e' w2 ⟨rfl,hb2⟩)
   have hu2:=upT HU1.out hb2
   have lx2:=lvState_run (upR hu2 R0.out)
   have ls2:(lvSignedExit ⟨w.heap.size+1,0,none⟩).run Tryz.prog w2=.ok (.agg (cel (sSignedExit s))) w2:=lvSE_run (upR hu2 R1.out)
   have HQ2:=hid (HQU.out w2 (upT HB.out hu2))
   have HU2:=hid hu2
   have zr:=zero_root
   clear hu2 hb2 HC1 HU1 HQU lx1 le1
   go_upto_region 7 with (go_at_call 31;refine HQ2.out.mono ?_;rintro e' w3 ⟨rfl,hb3⟩;have sv:=sv24_newv w3 (fun _=>0) QV)
   obtain ⟨W4,y4,hW4,ey4,r4,hd4,b4⟩:=upN2 hb3 (.cells (vs .u8 32 QV) 24)
   rw [hW4,ey4]
   have hu4:=upT HU2.out (upT hb3 hd4)
   have lq4:=lv24_run r4
   have bs1:=fun W=>bs22_1 W QV
   obtain ⟨W5,y5,hW5,ey5,r5,hd5,b5⟩:=upN2 hu4 (.cells (vs .u8 32 QV) 24)
   have hu5:=upT hu4 hd5
   have q4:=upR hd5 r4
   have lq5:=lv24_run q4
   have RQ5:=hid r5
   have HU5:=hid hu5
   have HG5:=hid (HGO.out W5 (upT HB.out hu5))
   have y5b:w.heap.size+3≤y5:=by
    have:=hu4.size
    have:=HB.out.size
    have:=some_ltK R2.out
    omega
   clear hW4 ey4 r4 hd4 b4 hu4 hb3 HQ2 HU2 hd5 q4 hu5 sv lx2 ls2 zr HGO
   go_upto_region 8 with fail
   clear hW5 ey5 b5 bs1 lq4
   cases hG:gdB QV f n
   ·obtain ⟨rfl,rfl⟩:=HYN.out hG
    rw [hG] at HG5
    clear HYB HYN HLQ r5 hG
    go_wp2_with (go_at_call 32;refine HG5.out.mono ?_;rintro e' w6 ⟨rfl,hb6⟩;have s6:=svState_run (upR (upT HU5.out hb6) R2.out) oState)
    have hr6:=upR (upT HU5.out hb6) R2.out
    refine retState3 6 7 8 (w.heap.size+2) oState 49 (.slice (some ⟨y5,0,none⟩) 1 1) (.int .i64 25) rfl rfl rfl rfl rfl (setRow_at hr6) ⟨oState,_,_,rfl,resO _ _,?_,.inr ⟨_,rfl,by show w.heap.size≤y5;omega⟩,below_row (upT HB.out (upT HU5.out hb6)) (by omega) _⟩
    exact .inr (.inr ⟨y5,0,rfl,Nat.le_refl _,some_ltK ((setRow_other (by omega)).trans (upR hb6 RQ5.out)),fun j hj=>by rw [Nat.zero_add];exact row_int ((setRow_other (by omega)).trans (upR hb6 RQ5.out)) j (by omega)⟩)
   ·obtain ⟨rfl,rfl⟩:=HYB.out hG
    rw [hG] at HG5
    clear HYB HYN r5 hG
    go_upto_region 10 with (go_at_call 32;refine HG5.out.mono ?_;rintro e' w6 ⟨rfl,hb6⟩)
    have hu6:=upT HU5.out hb6
    have lx6:=lvState_run (upR hu6 R0.out)
    have c61:=se_who (upR hu6 R1.out)
    have HL6:=hid (HLQ.out w6 (upT HB.out hu6))
    have RQ6:=hid (upR hb6 RQ5.out)
    have HU6:=hid hu6
    clear hu6 hb6 HG5 HLQ RQ5 HU5
    go_upto_region 11 with (go_at_call 33;refine HL6.out.mono ?_;rintro e' w7 ⟨X,rfl,hres,hb7⟩;have sv:=svState_newv w7 oState X;have HRES:=hid hres;have HB7:=hid hb7;clear hres hb7)
    have hres:=HRES.out
    have hb7:=HB7.out
    obtain ⟨W8,y8,hW8,ey8,r8,hd8,b8⟩:=upN2 hb7 (.cells (cel (sState X)) 49)
    rw [hW8,ey8]
    have h78:=upT hb7 hd8
    have hu8:=upT HU6.out h78
    have l8:=lvState_run r8
    have q2:=upR hu8 R2.out
    have s8:=svState_run q2 X
    have qq:=upR h78 RQ6.out
    have hrs:=hres.below hd8
    have hz6:w.heap.size+2 < w6.heap.size:=Nat.lt_of_lt_of_le (some_ltK R2.out) HU6.out.size
    have HRS:=hid hrs
    have HQQ:=hid qq
    have HU8:=hid (upT HB.out hu8)
    have Q2:=hid q2
    clear hW8 ey8 r8 hd8 b8 h78 hu8 hres hb7 HL6 HU6 RQ6 sv lx6 c61 hrs qq q2
    go_wp2
    exact retState3 6 7 8 (w.heap.size+2) X 49 (.slice (some ⟨y5,0,none⟩) 1 1) (.int .i64 (lqE x s.f0.f1)) rfl rfl rfl rfl rfl (setRow_at Q2.out) ⟨X,_,_,rfl,((HRS.out.row hz6 _).to (by omega) HRS.out.sim),.inr (.inr ⟨y5,0,rfl,Nat.le_refl _,some_ltK ((setRow_other (by omega)).trans HQQ.out),fun j hj=>by rw [Nat.zero_add];exact row_int ((setRow_other (by omega)).trans HQQ.out) j (by omega)⟩),.inr ⟨_,rfl,by show w.heap.size≤y5;omega⟩,below_row HU8.out (by omega) _⟩
  ·have eK:exK x s=0:=by unfold exK;rw [if_neg hP]
   have eE:exE x s f n=exP x s.f0:=by unfold exE;rw [if_neg hP]
   have eS:exS x s f n=oState:=by unfold exS;rw [if_neg (by rw [eE];exact hP)]
   rw [eK,eE,eS]
   obtain ⟨P,eP⟩:∃ p,exP x s.f0=p:=⟨_,rfl⟩
   rw [eP] at hck hP ⊢
   have hP':(P != 0)=true:=by simp [hP]
   have HCK:=hid hck
   have HLE:=hid hle
   clear hri hck hle hB0 hW0 r0 r1 r2 hx hw hn hl hs hr hnn hS eK eE eS eP
   go_enter Tryz.func11,Tryz.ntmps11
   go_upto_region 1 with fail
   rw [HW.out]
   clear HW z
   go_upto_region 3 with (go_at_call 14;refine HRI.out.mono ?_;rintro e' w1 ⟨rfl,hb1⟩;have lx1:=lvState_run (upR hb1 R0.out);have le1:=HLE.out w1 hb1)
   have HU1:=hid hb1
   have HC1:=hid (HCK.out w1 (upT HB.out hb1))
   clear hb1 HRI HCK lx HLE
   go_wp2_with (go_at_call 30;refine HC1.out.mono ?_;rintro e' w2 ⟨rfl,hb2⟩;have s1:=svState_run (upR (upT HU1.out hb2) R2.out) oState)
   exact retState3 6 7 8 (w.heap.size+2) oState 49 (.slice none 0 0) (.int .i64 P) rfl rfl rfl rfl rfl (setRow_at (upR (upT HU1.out hb2) R2.out)) ⟨oState,none,0,rfl,resO _ _,.inl ⟨rfl,rfl,rfl⟩,.inl rfl,below_row (upT HB.out (upT HU1.out hb2)) (by omega) _⟩
end
section
open Go.RowKit
set_option linter.unusedVariables false
set_option linter.unusedSimpArgs false
set_option maxRecDepth 20000
def rtR (x:VState) (r:Nat→Int):VState:={ x with f8:={ x.f8 with f0:=r } }
def rtS (x:VState) (d:VDeposit):VState:=rtR x (upV (hDepositData d.f1) d.f0.f0 x.f10.toNat 7)
theorem rtR_10 (x:VState) (r:Nat→Int):(rtR x r).f10=x.f10:=rfl
theorem st_8r (x:VState) (r:Nat→Int):putL (cel (sState x)) 654 (bl r 32)=cel (sState (rtR x r)):=by
 have h:=put_seg ((sState x).take 14) [.by 32 x.f8.f0] [.by 32 r] ((sState x).drop 15) rfl
 rw [show slen ((sState x).take 14)=654 by kernel_rfl,show (sState x).take 14++[Seg.by 32 x.f8.f0]++(sState x).drop 15=sState x by kernel_rfl,show (sState x).take 14++[Seg.by 32 r]++(sState x).drop 15=sState (rtR x r) by kernel_rfl,celL_by] at h
 exact h
theorem ok_rt {x:VState} (h:OkState x) {r:Nat→Int} (hr:∀ j,j < 32→0≤r j∧r j < 256):OkState (rtR x r):=⟨h.o0,h.o1,h.o2,h.o3,h.o4,h.o5,h.o6,h.o7,⟨hr,h.o8.2⟩,h.o9,h.o10,h.o11,h.o12,h.o13,h.o14,h.o15,h.o16,h.o18,h.o19,h.o20,h.o21,h.o22,h.o23⟩
theorem inw_rt {w:World} {x:VState} (h:InW w x) (r:Nat→Int):InW w (rtR x r):=⟨h.i7,h.i9,h.i11,h.i12,h.i15,h.i16,h.i21⟩
theorem nil_rt {x:VState} (h:NilW x) (r:Nat→Int):NilW (rtR x r):=⟨h.n9,h.n11,h.n12,h.n21⟩
theorem lns_rt {x:VState} (h:Lns x) (r:Nat→Int):Lns (rtR x r):=h
theorem right_rt (x:VState) (r:Nat→Int):rightB (rtR x r)=rightB x:=rfl
theorem jn_bd {x:VState} {d:VDeposit} (hd:OkDeposit d) (j:Nat) (hj:j < 32):0≤upV (hDepositData d.f1) d.f0.f0 x.f10.toNat 7 j∧upV (hDepositData d.f1) d.f0.f0 x.f10.toNat 7 j < 256:=upV_bd (fun j hj=>hDepositData_bd hd.2 j hj) _ _ j hj
theorem rt_holds (x:VState) (d:VDeposit):holdsV (hDepositData d.f1) d.f0.f0 7 (rtS x d).f10.toNat (rtS x d).f8.f0=true:=by
 unfold holdsV
 rw [Bool.and_eq_true]
 exact ⟨by decide,eqR_self _⟩
attribute [local go_sem ↓] lvState_eq svState_eq bdState_eq lvDd_eq lv24_eq sv24_eq
set_option maxHeartbeats 8000000 in
theorem rooted_any (x : VState) (d : VDeposit) (w : World) (hx : OkState x) (hd : OkDeposit d) (hC : Rc w) :
    Calls Tryz.prog 5 #[.agg (cel (sState x)),.agg (cel (sDeposit d))] w fun e' w'=>e'=.returned (.agg (cel (sState (rtS x d))))∧Below w.heap.size w w':=by
 obtain ⟨W0,hW0⟩:∃ W,((w.alloc (.cells (cel (sState x)) 49)).alloc (.cells (cel (sDeposit d)) 60)).alloc (.cells (cel (sState oState)) 49)=W:=⟨_,rfl⟩
 have r0:W0.heap[w.heap.size]?=some (.cells (cel (sState (rtR x x.f8.f0))) 49):=by rw [←hW0];exact (heap_old (by simp<;>omega)).trans ((heap_old (by simp)).trans (heap_new rfl))
 have r1:W0.heap[w.heap.size+1]?=some (.cells (cel (sDeposit d)) 60):=by rw [←hW0];exact (heap_old (by simp)).trans (heap_new (by simp))
 have r2:W0.heap[w.heap.size+2]?=some (.cells (cel (sState oState)) 49):=by rw [←hW0];exact heap_new (by simp)
 have hB0:Up w W0:=by rw [←hW0];exact (((Below.refl _ _).alloc (Nat.le_refl _) _).alloc (by simp) _).alloc (by simp<;>omega) _
 have hf10:x.f10=((x.f10.toNat:Nat):Int):=(Int.toNat_of_nonneg hx.o10.1).symm
 have hrd:=rrootDepositData_any d.f1 W0 hd.2 (hC.below hB0)
 have hup:∀ W,Up W0 W→Calls Tryz.prog 13 #[.agg (vs .u8 32 (hDepositData d.f1)),.slice (some ⟨w.heap.size+1,0,none⟩) 7 7,.int .u64 x.f10] W fun e w'=>e=.returned (.agg (vs .u8 32 (upV (hDepositData d.f1) d.f0.f0 x.f10.toNat 7)))∧Below W.heap.size W w':=fun W h=>by
  have:=rup_any (hDepositData d.f1) d.f0.f0 (some ⟨w.heap.size+1,0,none⟩) 7 7 x.f10.toNat W (hC.below (upT hB0 h)) (fun j hj=>hDepositData_bd hd.2 j hj) (dp_prf (upR h r1)) (fun j hj=>hd.1 j (by omega)) (by have:=hx.o10.2;omega) (by omega)
  rw [←hf10] at this
  exact this
 have ld0:=dp_dat r1
 have erS:rtS x d=rtR x (upV (hDepositData d.f1) d.f0.f0 x.f10.toNat 7):=rfl
 rw [erS]
 obtain ⟨UV,eUV⟩:∃ u,upV (hDepositData d.f1) d.f0.f0 x.f10.toNat 7=u:=⟨_,rfl⟩
 obtain ⟨HR,eHR⟩:∃ u,hDepositData d.f1=u:=⟨_,rfl⟩
 rw [eUV]
 simp only [eUV] at hup
 simp only [eHR] at hup
 rw [eHR] at hrd
 have z:=zeroState
 have zr:=zero_root
 have HB:=hid hB0
 have HW:=hid hW0
 have HRD:=hid hrd
 have HUP0:=hid hup
 have R0:=hid r0
 have R2:=hid r2
 have z0:w.heap.size+2 < W0.heap.size:=some_ltK r2
 clear hB0 hW0 hrd hup r0 r1 r2 hf10 erS eUV eHR hx hd hC
 go_enter Tryz.func5,Tryz.ntmps5
 go_upto_region 1 with fail
 rw [HW.out]
 clear HW z
 go_upto_region 2 with (go_at_call 12;refine HRD.out.mono ?_;rintro e' w1 ⟨rfl,hb1⟩;have sv:=sv24_newv w1 (fun _=>0) HR)
 obtain ⟨V3,y5,hV3,ey5,r5,hd5,b5⟩:=upN2 hb1 (.cells (vs .u8 32 HR) 24)
 rw [hV3,ey5]
 have hu3:=upT hb1 hd5
 have RX:=hid (upR hu3 R0.out)
 have R5:=hid r5
 have NE5:Hid (y5≠w.heap.size):=by show y5≠w.heap.size;omega
 have HUP:=hid (fun W (h:Up V3 W)=>HUP0.out W (upT hu3 h))
 have HU3:=hid hu3
 clear hV3 ey5 r5 hd5 b5 hb1 hu3 sv zr HUP0 HRD ld0
 refine wp_region_noPanic ?_
 refine wp_region_held_drew (S:=fun W=>Kept w.heap.size V3 W∧∃ r,W.heap[w.heap.size]?=some (.cells (cel (sState (rtR x r))) 49)) (by kernel_rfl) (⟨(Kept.refl _ V3).thenBelow (Below.refl _ _).drew,x.f8.f0,drew_row RX.out⟩) (fun hHeld=>?_)
 generalize eWD:V3.drew=wd at hHeld ⊢
 have hUd:Up V3 wd:=by rw [←eWD];exact (Below.refl _ _).drew
 clear eWD
 refine tk 0 (v:=?v501) ?y501 hHeld ?r501
 case y501=>intro w hSw;obtain ⟨hk,r,hr⟩:=hSw;have ld0:=lv24_run ((hk.block _ (some_ltK R5.out) NE5.out).trans R5.out);go_simp;try with_reducible rfl
 refine tk 1 (v:=?v502) ?y502 hHeld ?r502
 case y502=>intro w hSw;go_simp;try with_reducible rfl
 refine tk 2 (v:=?v503) ?y503 hHeld ?r503
 case y503=>intro w hSw;go_simp;try with_reducible rfl
 refine tk 3 (v:=?v504) ?y504 hHeld ?r504
 case y504=>intro w hSw;go_simp;try with_reducible rfl
 refine tk 4 (v:=?v505) ?y505 hHeld ?r505
 case y505=>intro w hSw;obtain ⟨hk,r,hr⟩:=hSw;have ld0:=cS10 hr;rw [rtR_10] at ld0;go_simp;try with_reducible rfl
 try simp only [Act.put,z_1,z_2,z_3,z_4,z_5,z_6,z_7]
 refine rd1 5 (fun K hK=>?_)
 go_simp
 refine (HUP.out _ hUd).mono ?_
 rintro e' x5 ⟨rfl,hd5⟩
 dsimp only
 have hc5:=upT hUd hd5
 refine hK.out _ _ ⟨Kept.ofBelow hc5,x.f8.f0,upR hc5 RX.out⟩ (fun hHeld=>?_)
 clear hK K
 try simp only [Act.put,z_1,z_2,z_3,z_4,z_5,z_6,z_7]
 refine tk 6 (v:=?v506) ?y506 hHeld ?r506
 case y506=>intro w hSw;go_simp;try with_reducible rfl
 refine tk 7 (v:=?v507) ?y507 hHeld ?r507
 case y507=>intro w hSw;go_simp;try with_reducible rfl
 try simp only [Act.put,z_1,z_2,z_3,z_4,z_5,z_6,z_7]
 refine rd1 8 (fun K hK=>?_)
 have rx5:=upR hc5 RX.out
 have sv:=sv24_mid rx5 654 UV (by rw [cel_size,slState];omega)
 go_simp
 obtain ⟨x6,hx6⟩:∃ W,x5.setCells w.heap.size 654 (bl UV 32)=W:=⟨_,rfl⟩
 have rx6:x6.heap[w.heap.size]?=some (.cells (cel (sState (rtR x UV))) 49):=by
  have e8:=st_8r (rtR x x.f8.f0) UV
  rw [show rtR (rtR x x.f8.f0) UV=rtR x UV from rfl] at e8
  rw [←hx6,←e8]
  exact setCells_row _ _ rx5
 have hk6:Kept w.heap.size V3 x6:=by rw [←hx6];exact setCells_kept _ _ (Kept.ofBelow hc5)
 rw [hx6]
 refine hK.out _ _ ⟨hk6,UV,rx6⟩ (fun hHeld=>?_)
 clear hK K
 try simp only [Act.put,z_1,z_2,z_3,z_4,z_5,z_6,z_7]
 refine wpAnyH_done (by kernel_rfl) ?_ _
 refine NoPanic.normal ?_
 clear hHeld sv hx6 rx5 hc5 hd5 hUd
 have lx:=lvState_run rx6
 have q2:=(hk6.block _ (Nat.lt_of_lt_of_le z0 HU3.out.size) (by omega)).trans (upR HU3.out R2.out)
 have s2:=svState_run q2 (rtR x UV)
 have HU6:=hid ((upT HB.out HU3.out).trans (hk6.below (B:=w.heap.size) (Nat.le_refl _) (upT HB.out HU3.out).size))
 have Q2:=hid q2
 clear hk6 rx6 q2 HUP R0 R2 R5 RX
 go_wp2
 exact retState1 4 (w.heap.size+2) (rtR x UV) 49 rfl rfl rfl (setRow_at Q2.out) ⟨rfl,below_row HU6.out (by omega) _⟩
def dA:VDeposit:=⟨⟨fun _=>0⟩,⟨fun _=>0,fun _=>0,33000000000,fun _=>0⟩⟩
theorem ok_dA:OkDeposit dA:=⟨fun _ _=>by show (0:Int)≤0∧(0:Int) < 256;omega,fun _ _=>by show (0:Int)≤0∧(0:Int) < 256;omega,fun _ _=>by show (0:Int)≤0∧(0:Int) < 256;omega,by show (0:Int)≤33000000000∧(33000000000:Int) < 18446744073709551616;omega,fun _ _=>by show (0:Int)≤0∧(0:Int) < 256;omega⟩
def xA (r:Nat→Int):VState:=rtR oState r
theorem right_xj (r:Nat→Int):rightB (xA r)=true:=by rw [xA,right_rt];exact right_z
theorem right_eA (r:Nat→Int):rightB (enS (upS (xA r)) dA.f1)=true:=by kernel_rfl
theorem tk_xA (r f:Nat→Int):tkK (xA r) dA.f1=1∧tkE (xA r) dA.f1 f 0=0∧tkS (upS (xA r)) dA.f1 f 0=enS (upS (xA r)) dA.f1:=by
 have h0:¬ dpO (xA r) dA.f1 < (xA r).f11.n:=Nat.not_lt_zero _
 have h1:¬ dpO (upS (xA r)) dA.f1 < (upS (xA r)).f11.n:=Nat.not_lt_zero _
 refine ⟨?_,?_,?_⟩
 ·unfold tkK;rw [if_neg h0]
 ·unfold tkE;rw [if_neg h0,if_pos (gdB_zero _ _),if_neg (show ¬ 65536≤(xA r).f11.n from by show ¬ 65536≤0;omega),if_neg (show ¬ 144115188075855872 < dA.f1.f2 from by show ¬ (144115188075855872:Int) < 33000000000;omega)]
 ·unfold tkS;rw [if_neg h1,if_pos (gdB_zero _ _)]
theorem jd_xA (f:Nat→Int):jdK (rtS oState dA) dA=1∧jdE (rtS oState dA) dA f 0=0∧∃ r,jdS (rtS oState dA) dA f 0=enS (upS (xA r)) dA.f1:=by
 have hp:jdP (rtS oState dA) dA=0:=by
  unfold jdP
  rw [rt_holds,show rightB (rtS oState dA)=true from right_xj _]
  rfl
 obtain ⟨r,er⟩:∃ r,rtS oState dA=xA r:=⟨_,rfl⟩
 rw [er] at hp ⊢
 obtain ⟨h1,h2,h3⟩:=tk_xA r f
 have hE:jdE (xA r) dA f 0=0:=by unfold jdE;rw [if_pos hp,if_pos h2,h3,right_eA];rfl
 refine ⟨by unfold jdK;rw [if_pos hp];exact h1,hE,r,?_⟩
 unfold jdS
 rw [if_pos hE]
 exact h3
theorem ex_xA (r f:Nat→Int):exK (xA r) oSignedExit=0∧exE (xA r) oSignedExit f 0=27:=by
 have hP:exP (xA r) oSignedExit.f0=27:=by
  unfold exP exC
  rw [right_xj,if_pos rfl,if_neg (show ¬ oSignedExit.f0.f1 < ((xA r).f11.n:Int) from by show ¬ (0:Int) < ((0:Nat):Int);omega)]
 exact ⟨by unfold exK;rw [hP];rfl,by unfold exE;rw [hP];rfl⟩
theorem val_e2 {w:World} {b o:Nat} {v:VValidator} (h:w.rangeAt b o (celL (sValidator v))):w.cell? ⟨b,o+80,none⟩=some (.int .u64 v.f2):=h 80 _ rfl
end
section
open Go.RowKit
set_option linter.unusedVariables false
set_option linter.unusedSimpArgs false
set_option maxRecDepth 20000
theorem dA_put:(cel (sDeposit oDeposit)).setIfInBounds 304 (.int .u64 33000000000)=cel (sDeposit dA):=by kernel_rfl
theorem dA_304:(cel (sDeposit oDeposit))[304]?=some (.int .u64 0):=by kernel_rfl
theorem lvDe_run {w:World} {b:Nat} {x:VDeposit} {t:TypeId} (h:w.heap[b]?=some (.cells (cel (sDeposit x)) t)):(lvDeposit ⟨b,0,none⟩).run Tryz.prog w=.ok (.agg (cel (sDeposit x))) w :=
 loadAt_var (load_row h 60 _ Tryz.underlying60 rfl (by rw [cel_size,show slen (sDeposit x)=401 from rfl];kernel_rfl))
theorem ef_dA:(nvV dA.f1).f2=32000000000:=by
 show min 32000000000 ((33000000000:Int) - 33000000000 % 1000000000)=32000000000
 decide
theorem jd_awake (w : World) (hS : Sh w) : ∃ x : VState, rtS oState dA = x ∧ (∀ W, Up w W → Calls Tryz.prog 7 #[.agg (cel (sState x)), .agg (cel (sDeposit dA)), .slice none 0 0] W fun e' w' => ∃ (X : VState) (a : Option Addr) (c b off C : Nat), e' = .returned (.tuple #[.agg (cel (sState X)), .slice a 1 c, .int .i64 0]) ∧ X.f11.a = some ⟨b, off, none⟩ ∧ X.f11.n = 1 ∧ X.f11.c = C ∧ b < w'.heap.size ∧ w'.cell? ⟨b, off + 80, none⟩ = some (.int .u64 32000000000) ∧ Below W.heap.size W w') ∧
    ∀ W,Up w W→Calls Tryz.prog 11 #[.agg (cel (sState x)),.agg (cel (sSignedExit oSignedExit)),.slice none 0 0] W fun e' w'=>∃ (X:VState) (a:Option Addr) (c:Nat),e'=.returned (.tuple #[.agg (cel (sState X)),.slice a 0 c,.int .i64 27])∧Below W.heap.size W w':=by
 have hjk:=jd_xA (fun _=>0)
 obtain ⟨r,er⟩:∃ r,upV (hDepositData dA.f1) dA.f0.f0 oState.f10.toNat 7=r:=⟨_,rfl⟩
 have hrb:∀ j,j < 32→0≤r j∧r j < 256:=fun j hj=>by rw [←er];exact jn_bd ok_dA j hj
 have ex:rtS oState dA=xA r:=by show rtR oState _=rtR oState r;rw [er]
 rw [ex] at hjk ⊢
 have hox:OkState (xA r):=ok_rt ok_z15 hrb
 refine ⟨_,rfl,fun W h=>?_,fun W h=>?_⟩
 ·obtain ⟨h1,h2,r',h3⟩:=hjk
  refine (jdep_prog (xA r) dA none 0 0 (fun _=>0) W hox (inw_rt (inwO W) _) (nil_rt nilO _) (lns_rt lns_z _) ok_dA (.inl ⟨rfl,rfl,rfl⟩) (by omega) (hS.below h)).mono ?_
  rintro e' w' ⟨X,a,c,he,hres,_,_,hb⟩
  rw [h1,h2] at he
  rw [h3] at hres
  have hn:X.f11.n=1:=hres.sim.l11
  have hz:X.f11.z 0=nvV dA.f1:=by
   rw [hres.sim.z11]
   show vnZ (upS (xA r')).f11.z (upS (xA r')).f11.n (nvV dA.f1) (upS (xA r')).f11.n=_
   exact vn_top _ _ _
  rcases hres.inw.i11 with h0 | ⟨b,off,ea,hbl,hc⟩
  ·omega
  have h80:=val_e2 (hc 0 (by omega))
  rw [hz,ef_dA] at h80
  exact ⟨X,a,c,b,off,X.f11.c,he,ea,hn,rfl,hbl,h80,hb⟩
 ·obtain ⟨h1,h2⟩:=ex_xA r (fun _=>0)
  refine (exit_prog (xA r) oSignedExit none 0 0 (fun _=>0) W hox (inw_rt (inwO W) _) (nil_rt nilO _) (lns_rt lns_z _) ⟨⟨by show (0:Int)≤0∧(0:Int) < 18446744073709551616;omega,by show (0:Int)≤0∧(0:Int) < 18446744073709551616;omega⟩,fun _ _=>by show (0:Int)≤0∧(0:Int) < 256;omega⟩ (.inl ⟨rfl,rfl,rfl⟩) (by omega) (hS.below h)).mono ?_
  rintro e' w' ⟨X,a,c,he,_,_,_,hb⟩
  rw [h1,h2] at he
  exact ⟨X,a,c,he,hb⟩
attribute [local go_sem ↓] lvState_eq svState_eq bdState_eq lvDeposit_eq bdSignedExit_eq ixValidator_eq
set_option maxHeartbeats 8000000 in
theorem awake20 (w : World) (hS : Sh w) (hC : Rc w) :
    Calls Tryz.prog 4 #[] w fun e' w'=>e'=.returned (.bool true)∧Below w.heap.size w w':=by
 obtain ⟨W0,hW0⟩:∃ W,w.alloc (.cells (cel (sDeposit oDeposit)) 60)=W:=⟨_,rfl⟩
 have r0:W0.heap[w.heap.size]?=some (.cells (cel (sDeposit oDeposit)) 60):=by rw [←hW0];exact heap_new rfl
 have hB0:Up w W0:=by rw [←hW0];exact (Below.refl _ _).alloc (Nat.le_refl _) _
 have hc304:W0.cell? ⟨w.heap.size,304,none⟩=some (.int .u64 0):=(row_cell r0 (i:=304)).trans dA_304
 have fz:=row_frozen r0 304
 obtain ⟨W1,hW1⟩:∃ W,W0.setCell ⟨w.heap.size,304,none⟩ (.int .u64 33000000000)=W:=⟨_,rfl⟩
 have r1:W1.heap[w.heap.size]?=some (.cells (cel (sDeposit dA)) 60):=by rw [←hW1];exact (row_set r0 304 _).trans (congrArg (fun c=>some (Obj.cells c 60)) dA_put)
 have hB1:Up w W1:=by rw [←hW1];exact hB0.trans (((Kept.refl w.heap.size W0).setCell 304 (.int .u64 33000000000)).below (B:=w.heap.size) (Nat.le_refl _) hB0.size)
 obtain ⟨x,ex,hjd,hxx⟩:=jd_awake w hS
 have hro:=rooted_any oState dA W1 ok_z15 ok_dA (hC.below hB1)
 rw [ex] at hro
 have b0:=bdState_0
 have b1:=bdSignedExit_0
 have z:=zeroState
 have zd:=zeroDeposit
 have ld1:=lvDe_run r1
 obtain ⟨xo,exo⟩:∃ s,oState=s:=⟨_,rfl⟩
 rw [exo] at b0 z hro
 obtain ⟨so,eso⟩:∃ s,oSignedExit=s:=⟨_,rfl⟩
 rw [eso] at b1
 simp only [eso] at hxx
 obtain ⟨dd,edd⟩:∃ s,dA=s:=⟨_,rfl⟩
 rw [edd] at hro ld1 r1
 simp only [edd] at hjd
 have HB:=hid hB1
 have HRO:=hid hro
 have HJD:=hid hjd
 have HEX:=hid hxx
 have R1:=hid r1
 clear hB0 hB1 hro hjd hxx hS hC r0 r1 exo eso edd ex
 go_enter Tryz.func4,Tryz.ntmps4
 go_upto_region 3 with fail
 clear hW0 hc304 fz zd
 go_upto_region 4 with (go_at_call 5;refine HRO.out.mono ?_;rintro e' w1 ⟨rfl,hb1⟩;have sv:=svState_newv w1 xo x)
 obtain ⟨W2,y2,hW2,ey2,r2,hd2,_⟩:=upN2 hb1 (.cells (cel (sState x)) 49)
 rw [hW2,ey2]
 have hu2:=upT hb1 hd2
 have ld2:=lvDe_run (upR hu2 R1.out)
 have lx2:=lvState_run r2
 have R2:=hid r2
 have HU2:=hid (upT HB.out hu2)
 have HJ2:=hid (HJD.out W2 (upT HB.out hu2))
 clear hW2 ey2 r2 hd2 hb1 hu2 sv HRO HJD ld1 hW1 R1
 go_upto_region 5 with (go_at_call 7;refine HJ2.out.mono ?_;rintro e' w3 ⟨X,a3,c3,b,off,C,rfl,ea,en,ec,hbl,h80,hb3⟩;have sv:=svState_newv w3 xo X)
 obtain ⟨W4,y4,hW4,ey4,r4,hd4,_⟩:=upN2 hb3 (.cells (cel (sState X)) 49)
 rw [hW4,ey4]
 have hu4:=upT hb3 hd4
 have lx4:=lvState_run (upR hu4 R2.out)
 have HU4:=hid (upT HU2.out hu4)
 have HE4:=hid (HEX.out W4 (upT HU2.out hu4))
 have c11:∀ V,Up W4 V→V.cell? ⟨y4,721,none⟩=some (.slice (some ⟨b,off,none⟩) 1 C):=fun V h=>by
  have:=cS11 (upR h r4)
  rw [ea,en,ec] at this
  exact this
 have c80:∀ V,Up W4 V→V.cell? ⟨b,off+80,none⟩=some (.int .u64 32000000000):=fun V h=>(below_cell (upT hd4 h) hbl).trans h80
 have HC11:=hid c11
 have HC80:=hid c80
 have hix:∀ V:World,(ixValidator (.slice (some ⟨b,off,none⟩) 1 C) (.int .i64 0)).run Tryz.prog V=.ok (.pointer (some ⟨b,off,none⟩)) V:=fun V=>ixValidator_run V b off 1 C 0 (by omega)
 have HIX:=hid hix
 clear hW4 ey4 r4 hd4 hb3 hu4 sv HJ2 lx2 ld2 ea en ec hbl h80 c11 c80 hix R2
 go_upto_region 6 with (go_at_call 11;refine HE4.out.mono ?_;rintro e' w5 ⟨X5,a5,c5,rfl,hb5⟩;have sv:=svState_newv w5 xo X5)
 obtain ⟨W6,y6,hW6,ey6,r6,hd6,_⟩:=upN2 hb5 (.cells (cel (sState X5)) 49)
 rw [hW6,ey6]
 have hu6:=upT hb5 hd6
 have c11:=HC11.out W6 hu6
 have c80:=HC80.out W6 hu6
 have ix:=HIX.out
 have HU6:=hid (upT HU4.out hu6)
 clear hW6 ey6 r6 hd6 hb5 hu6 sv HE4 lx4
 go_wp2
 go_ret
 exact ⟨rfl,HU6.out⟩
end
end Go.Proofs.YtfgmddnfhphdeaaGreatDoor
