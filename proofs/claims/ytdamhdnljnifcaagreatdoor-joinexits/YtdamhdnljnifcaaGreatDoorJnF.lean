/- A part. -/
import Derived.Test.YtdamhdnljnifcaaGreatDoorJnC
namespace Go.Proofs.YtdamhdnljnifcaaGreatDoor
open Go.RowKit
set_option linter.unusedVariables false
set_option linter.unusedSimpArgs false
set_option maxRecDepth 20000
attribute [local go_sem ↓] lvState_eq lv24_eq sv24_eq lvExit_eq lvSignedExit_eq svState_eq bdState_eq bs22_eq
set_option maxHeartbeats 8000000 in
theorem exit_prog (x : VState) (s : VSignedExit) (a : Option Addr) (n cap : Nat) (f : Nat → Int) (w : World) (hx : OkState x) (hw : InW w x) (hn : NilW x) (hl : Lns x) (hs : OkSignedExit s) (hr : Rts w a n cap f) (hnn : n ≤ 9223372036854775807) (hS : Sh w) :
    Calls Tryz.prog 12 #[.agg (cel (sState x)),.agg (cel (sSignedExit s)),.slice a n cap] w (ExA x s f n w):=by
 obtain ⟨W0,hW0⟩:∃ W,((w.alloc (.cells (cel (sState x)) 49)).alloc (.cells (cel (sSignedExit s)) 71)).alloc (.cells (cel (sState oState)) 49)=W:=⟨_,rfl⟩
 have r0:W0.heap[w.heap.size]?=some (.cells (cel (sState x)) 49):=by rw [←hW0];exact (heap_old (by simp<;>omega)).trans ((heap_old (by simp)).trans (heap_new rfl))
 have r1:W0.heap[w.heap.size+1]?=some (.cells (cel (sSignedExit s)) 71):=by rw [←hW0];exact (heap_old (by simp)).trans (heap_new (by simp))
 have r2:W0.heap[w.heap.size+2]?=some (.cells (cel (sState oState)) 49):=by rw [←hW0];exact heap_new (by simp)
 have hB0:Up w W0:=by rw [←hW0];exact (((Below.refl _ _).alloc (Nat.le_refl _) _).alloc (by simp) _).alloc (by simp<;>omega) _
 have hri:=right_any x W0 hx.r' (hw.below hB0).r' hl
 have lx:=lvState_run r0
 have z:=zeroState
 have bz:=bdState_0
 have HB:=hid hB0
 have HW:=hid hW0
 have R0:=hid r0
 have R1:=hid r1
 have R2:=hid r2
 unfold ExA
 cases hR:rightB x
 ·rw [hR] at hri
  have HRI:=hid hri
  have eP:exP x s.f0=1:=by unfold exP;rw [hR];rfl
  have eK:exK x s=0:=by unfold exK;rw [eP];rfl
  have eE:exE x s f n=1:=by unfold exE;rw [eP];rfl
  have eS:exS x s f n=oState:=by unfold exS;rw [eE];rfl
  rw [eK,eE,eS]
  clear hri hB0 hW0 r0 r1 r2 hx hw hn hl hs hr hnn hS eP eK eE eS
  go_enter Tryz.func12,Tryz.ntmps12
  go_upto_region 1 with fail
  rw [HW.out]
  clear HW z
  go_wp2_with (go_at_call 16;refine HRI.out.mono ?_;rintro e' w1 ⟨rfl,hu⟩;have s1:=svState_run (upR hu R2.out) oState)
  exact retState3 6 7 8 (w.heap.size+2) oState 49 (.slice none 0 0) (.int .i64 1) rfl rfl rfl rfl rfl (setRow_at (upR hu R2.out)) ⟨oState,none,0,rfl,resO _ _,.inl ⟨rfl,rfl,rfl⟩,.inl rfl,below_row (upT HB.out hu) (by omega) _⟩
 ·rw [hR] at hri
  have HRI:=hid hri
  have hck:∀ W,Up w W→Calls Tryz.prog 32 #[.agg (cel (sState x)),.agg (cel (sExit s.f0))] W fun e' w'=>e'=.returned (.int .i64 (exP x s.f0))∧Below W.heap.size W w':=fun W h=>by
   have:=chk_any x s.f0 W hx (hw.below h) hR hs.1
   unfold exP
   rw [hR,if_pos rfl]
   exact this
  have hle:∀ W,Up W0 W→(lvExit ⟨w.heap.size+1,0,none⟩).run Tryz.prog W=.ok (.agg (cel (sExit s.f0))) W:=fun W h=>se_head (upR h r1)
  by_cases hP:exP x s.f0=0
  ·have hC:exC x s.f0=0:=by unfold exP at hP;rw [hR,if_pos rfl] at hP;exact hP
   obtain ⟨k,ek,hk,-,-⟩:=exC_cases x s.f0 hs.1.2.1 hC
   have eK:exK x s=1:=by unfold exK;rw [hP];rfl
   have eE:exE x s f n=if gdB (exQ x s) f n=true then lqE x s.f0.f1 else 25:=by unfold exE;rw [hP];rfl
   have hqu:∀ W,Up w W→Calls Tryz.prog 33 #[.agg (cel (sState x)),.agg (cel (sSignedExit s))] W fun e' w'=>e'=.returned (.agg (vs .u8 32 (exQ x s)))∧Below W.heap.size W w':=fun W h=>xq_any x s k W hx (hw.below h) hk ek hs (hS.below h)
   have hgo:=fun (W:World) (h:Up w W)=>goo_prog (exQ x s) f a n cap W (hr.below h) hnn
   have hlq:∀ W,Up w W→Calls Tryz.prog 35 #[.agg (cel (sState x)),.int .u64 s.f0.f1] W fun e' w'=>∃ X,e'=.returned (.tuple #[.agg (cel (sState X)),.int .i64 (lqE x s.f0.f1)])∧Res W.heap.size w' (lqS x s.f0.f1) X∧Below W.heap.size W w':=fun W h=>leave_prog x s.f0.f1 W hx (hw.below h) hn hl hs.1.2.1
   rw [hP] at hck
   rw [eK]
   have hyb:gdB (exQ x s) f n=true→exE x s f n=lqE x s.f0.f1∧exS x s f n=lqS x s.f0.f1:=fun h=>by
    have e1:exE x s f n=lqE x s.f0.f1:=by rw [eE,if_pos h]
    refine ⟨e1,?_⟩
    unfold exS
    rw [e1]
    unfold lqS
    split<;>rfl
   have hyn:gdB (exQ x s) f n=false→exE x s f n=25∧exS x s f n=oState:=fun h=>by
    have e1:exE x s f n=25:=by rw [eE,h];rfl
    refine ⟨e1,?_⟩
    unfold exS
    rw [e1]
    rfl
   obtain ⟨EE,eEE⟩:∃ q,exE x s f n=q:=⟨_,rfl⟩
   obtain ⟨RS,eRS⟩:∃ q,exS x s f n=q:=⟨_,rfl⟩
   rw [eEE,eRS] at hyb hyn ⊢
   obtain ⟨QV,eQ⟩:∃ q,exQ x s=q:=⟨_,rfl⟩
   rw [eQ] at hqu hyb hyn ⊢
   simp only [eQ] at hgo
   have HCK:=hid hck
   have HLE:=hid hle
   have HQU:=hid hqu
   have HGO:=hid hgo
   have HLQ:=hid hlq
   have HYB:=hid hyb
   have HYN:=hid hyn
   clear hri hck hle hqu hgo hlq hyb hyn hB0 hW0 r0 r1 r2 hx hw hn hl hs hr hnn hS eK eE hP hC hk ek eQ eEE eRS
   go_enter Tryz.func12,Tryz.ntmps12
   go_upto_region 1 with fail
   rw [HW.out]
   clear HW
   go_upto_region 3 with (go_at_call 16;refine HRI.out.mono ?_;rintro e' w1 ⟨rfl,hb1⟩;have lx1:=lvState_run (upR hb1 R0.out);have le1:=HLE.out w1 hb1)
   have HU1:=hid hb1
   have HC1:=hid (HCK.out w1 (upT HB.out hb1))
   clear hb1 HRI HCK lx HLE
   go_upto_region 6 with (go_at_call 32;refine HC1.out.mono ?_;rintro e' w2 ⟨rfl,hb2⟩)
   have hu2:=upT HU1.out hb2
   have lx2:=lvState_run (upR hu2 R0.out)
   have ls2:(lvSignedExit ⟨w.heap.size+1,0,none⟩).run Tryz.prog w2=.ok (.agg (cel (sSignedExit s))) w2:=lvSE_run (upR hu2 R1.out)
   have HQ2:=hid (HQU.out w2 (upT HB.out hu2))
   have HU2:=hid hu2
   have zr:=zero_root
   clear hu2 hb2 HC1 HU1 HQU lx1 le1
   go_upto_region 7 with (go_at_call 33;refine HQ2.out.mono ?_;rintro e' w3 ⟨rfl,hb3⟩;have sv:=sv24_newv w3 (fun _=>0) QV)
   obtain ⟨W4,y4,hW4,ey4,r4,hd4,b4⟩:=upN2 hb3 (.cells (vs .u8 32 QV) 24)
   rw [hW4,ey4]
   have hu4:=upT HU2.out (upT hb3 hd4)
   have lq4:=lv24_run r4
   have bs1:=fun W=>bs22_1 W QV
   obtain ⟨W5,y5,hW5,ey5,r5,hd5,b5⟩:=upN2 hu4 (.cells (vs .u8 32 QV) 24)
   have hu5:=upT hu4 hd5
   have q4:=upR hd5 r4
   have lq5:=lv24_run q4
   have RQ5:=hid r5
   have HU5:=hid hu5
   have HG5:=hid (HGO.out W5 (upT HB.out hu5))
   have y5b:w.heap.size+3≤y5:=by
    have:=hu4.size
    have:=HB.out.size
    have:=some_ltK R2.out
    omega
   clear hW4 ey4 r4 hd4 b4 hu4 hb3 HQ2 HU2 hd5 q4 hu5 sv lx2 ls2 zr HGO
   go_upto_region 8 with fail
   clear hW5 ey5 b5 bs1 lq4
   cases hG:gdB QV f n
   ·obtain ⟨rfl,rfl⟩:=HYN.out hG
    rw [hG] at HG5
    clear HYB HYN HLQ r5 hG
    go_wp2_with (go_at_call 34;refine HG5.out.mono ?_;rintro e' w6 ⟨rfl,hb6⟩;have s6:=svState_run (upR (upT HU5.out hb6) R2.out) oState)
    have hr6:=upR (upT HU5.out hb6) R2.out
    refine retState3 6 7 8 (w.heap.size+2) oState 49 (.slice (some ⟨y5,0,none⟩) 1 1) (.int .i64 25) rfl rfl rfl rfl rfl (setRow_at hr6) ⟨oState,_,_,rfl,resO _ _,?_,.inr ⟨_,rfl,by show w.heap.size≤y5;omega⟩,below_row (upT HB.out (upT HU5.out hb6)) (by omega) _⟩
    exact .inr (.inr ⟨y5,0,rfl,Nat.le_refl _,some_ltK ((setRow_other (by omega)).trans (upR hb6 RQ5.out)),fun j hj=>by rw [Nat.zero_add];exact row_int ((setRow_other (by omega)).trans (upR hb6 RQ5.out)) j (by omega)⟩)
   ·obtain ⟨rfl,rfl⟩:=HYB.out hG
    rw [hG] at HG5
    clear HYB HYN r5 hG
    go_upto_region 10 with (go_at_call 34;refine HG5.out.mono ?_;rintro e' w6 ⟨rfl,hb6⟩)
    have hu6:=upT HU5.out hb6
    have lx6:=lvState_run (upR hu6 R0.out)
    have c61:=se_who (upR hu6 R1.out)
    have HL6:=hid (HLQ.out w6 (upT HB.out hu6))
    have RQ6:=hid (upR hb6 RQ5.out)
    have HU6:=hid hu6
    clear hu6 hb6 HG5 HLQ RQ5 HU5
    go_upto_region 11 with (go_at_call 35;refine HL6.out.mono ?_;rintro e' w7 ⟨X,rfl,hres,hb7⟩;have sv:=svState_newv w7 oState X;have HRES:=hid hres;have HB7:=hid hb7;clear hres hb7)
    have hres:=HRES.out
    have hb7:=HB7.out
    obtain ⟨W8,y8,hW8,ey8,r8,hd8,b8⟩:=upN2 hb7 (.cells (cel (sState X)) 49)
    rw [hW8,ey8]
    have h78:=upT hb7 hd8
    have hu8:=upT HU6.out h78
    have l8:=lvState_run r8
    have q2:=upR hu8 R2.out
    have s8:=svState_run q2 X
    have qq:=upR h78 RQ6.out
    have hrs:=hres.below hd8
    have hz6:w.heap.size+2 < w6.heap.size:=Nat.lt_of_lt_of_le (some_ltK R2.out) HU6.out.size
    have HRS:=hid hrs
    have HQQ:=hid qq
    have HU8:=hid (upT HB.out hu8)
    have Q2:=hid q2
    clear hW8 ey8 r8 hd8 b8 h78 hu8 hres hb7 HL6 HU6 RQ6 sv lx6 c61 hrs qq q2
    go_wp2
    exact retState3 6 7 8 (w.heap.size+2) X 49 (.slice (some ⟨y5,0,none⟩) 1 1) (.int .i64 (lqE x s.f0.f1)) rfl rfl rfl rfl rfl (setRow_at Q2.out) ⟨X,_,_,rfl,((HRS.out.row hz6 _).to (by omega) HRS.out.sim),.inr (.inr ⟨y5,0,rfl,Nat.le_refl _,some_ltK ((setRow_other (by omega)).trans HQQ.out),fun j hj=>by rw [Nat.zero_add];exact row_int ((setRow_other (by omega)).trans HQQ.out) j (by omega)⟩),.inr ⟨_,rfl,by show w.heap.size≤y5;omega⟩,below_row HU8.out (by omega) _⟩
  ·have eK:exK x s=0:=by unfold exK;rw [if_neg hP]
   have eE:exE x s f n=exP x s.f0:=by unfold exE;rw [if_neg hP]
   have eS:exS x s f n=oState:=by unfold exS;rw [if_neg (by rw [eE];exact hP)]
   rw [eK,eE,eS]
   obtain ⟨P,eP⟩:∃ p,exP x s.f0=p:=⟨_,rfl⟩
   rw [eP] at hck hP ⊢
   have hP':(P != 0)=true:=by simp [hP]
   have HCK:=hid hck
   have HLE:=hid hle
   clear hri hck hle hB0 hW0 r0 r1 r2 hx hw hn hl hs hr hnn hS eK eE eS eP
   go_enter Tryz.func12,Tryz.ntmps12
   go_upto_region 1 with fail
   rw [HW.out]
   clear HW z
   go_upto_region 3 with (go_at_call 16;refine HRI.out.mono ?_;rintro e' w1 ⟨rfl,hb1⟩;have lx1:=lvState_run (upR hb1 R0.out);have le1:=HLE.out w1 hb1)
   have HU1:=hid hb1
   have HC1:=hid (HCK.out w1 (upT HB.out hb1))
   clear hb1 HRI HCK lx HLE
   go_wp2_with (go_at_call 32;refine HC1.out.mono ?_;rintro e' w2 ⟨rfl,hb2⟩;have s1:=svState_run (upR (upT HU1.out hb2) R2.out) oState)
   exact retState3 6 7 8 (w.heap.size+2) oState 49 (.slice none 0 0) (.int .i64 P) rfl rfl rfl rfl rfl (setRow_at (upR (upT HU1.out hb2) R2.out)) ⟨oState,none,0,rfl,resO _ _,.inl ⟨rfl,rfl,rfl⟩,.inl rfl,below_row (upT HB.out (upT HU1.out hb2)) (by omega) _⟩
end Go.Proofs.YtdamhdnljnifcaaGreatDoor
