/- A part. -/
import Derived.Test.YtdamhdnljnifcaaGreatDoorQK
import Derived.Test.YtdamhdnljnifcaaGreatDoorQI
import Derived.Test.YtdamhdnljnifcaaGreatDoorQH
import Derived.Test.YtdamhdnljnifcaaGreatDoorStY
import Derived.Test.YtdamhdnljnifcaaGreatDoorQJ
import Derived.Test.YtdamhdnljnifcaaGreatDoorSlP
import Derived.Test.YtdamhdnljnifcaaGreatDoorQM
import Derived.Test.YtdamhdnljnifcaaGreatDoorPkB
import Derived.Test.YtdamhdnljnifcaaGreatDoorQE
import Derived.BigRegion
namespace Go.Proofs.YtdamhdnljnifcaaGreatDoor
open Go.RowKit
set_option linter.unusedVariables false
set_option linter.unusedSimpArgs false
section
open Go.RowKit
set_option linter.unusedVariables false
set_option linter.unusedSimpArgs false
set_option maxRecDepth 20000
structure Bl12 (y g:Nat) (W:World) (X:VState):Prop where
 c12:W.cell? ⟨y,722,none⟩=some (.slice (some ⟨g,0,none⟩) X.f12.n X.f12.c)
 row:∃ C,W.heap[g]?=some (.cells C 22)
 at_:∀ k,k < X.f12.n→W.cell? ⟨g,k,none⟩=some (.int .u64 (X.f12.z k))
theorem BK.bl12 {w V:World} {y g:Nat} {X:VState} (h:BK w y V X) (hg:X.f12.a=some ⟨g,0,none⟩):Bl12 y g V X:=by
 have c:=cS12 h.row
 rw [hg] at c
 have o:=h.cpd.o12
 rw [hg] at o
 refine ⟨c,(own_row o).2,fun k hk=>?_⟩
 rcases h.inW.i12 with h0 | ⟨b,off,ea,_,hr⟩
 ·omega
 ·rw [hg] at ea
  cases ea
  have:=hr k hk
  rw [Nat.zero_add] at this
  exact this
attribute [local go_sem ↓] lvState_eq svState_eq bdState_eq lvValidator_eq svValidator_eq ixValidator_eq ixU_eq
theorem BK.res {w V:World} {y:Nat} {Y:VState} (h:BK w y V Y):Res w.heap.size V Y Y:=⟨.refl _,h.inW,h.cpd.nil,h.cpd.nw⟩
end
section
open Go.RowKit
set_option linter.unusedVariables false
set_option linter.unusedSimpArgs false
set_option maxRecDepth 20000
def dnE (x:VState) (e:Int):Int:=if e=0 then (if rightB x=true then 0 else 2) else e
def dnS (x:VState) (e:Int):VState:=if dnE x e=0 then x else oState
theorem BK.give {w V:World} {y b:Nat} {Y:VState} {C:Array Value} (h:BK w y V Y) (r:V.heap[b]?=some (.cells C 49)) (c:Array Value):Res w.heap.size (V.setRow b c) Y Y:=by
 have hk:Kept b V (V.setRow b c):=(Kept.refl b V).setRow c
 have cp:CpdF w.heap.size (V.setRow b c) Y:=⟨own_keptB h.cpd.o7 hk (own_ne h.cpd.o7 r (by decide)),own_keptB h.cpd.o9 hk (own_ne h.cpd.o9 r (by decide)),own_keptB h.cpd.o11 hk (own_ne h.cpd.o11 r (by decide)),own_keptB h.cpd.o12 hk (own_ne h.cpd.o12 r (by decide)),own_keptB h.cpd.o15 hk (own_ne h.cpd.o15 r (by decide)),own_keptB h.cpd.o16 hk (own_ne h.cpd.o16 r (by decide)),own_keptB h.cpd.o21 hk (own_ne h.cpd.o21 r (by decide)),h.cpd.d15,h.cpd.d12⟩
 exact ⟨.refl _,⟨own_rtF cp.o7,own_els cp.o9 (fun i=>by rw [celL_len];rfl),own_els cp.o11 (fun i=>by rw [celL_len];rfl),own_nms cp.o12,own_byF cp.o15,own_byF cp.o16,own_nms cp.o21⟩,cp.nil,cp.nw⟩
attribute [local go_sem ↓] lvState_eq svState_eq bdState_eq
set_option maxHeartbeats 4000000 in
theorem rdone_any (x : VState) (e : Int) (w : World) (hx : OkState x) (hw : InW w x) :
    Calls Tryz.prog 24 #[.agg (cel (sState x)),.int .i64 e] w fun e' w'=>e'=.returned (.tuple #[.agg (cel (sState (dnS x e))),.int .i64 (dnE x e)])∧Below w.heap.size w w':=by
 obtain ⟨W0,hW0⟩:∃ W,(w.alloc (.cells (cel (sState x)) 49)).alloc (.cells (cel (sState oState)) 49)=W:=⟨_,rfl⟩
 have r0:W0.heap[w.heap.size]?=some (.cells (cel (sState x)) 49):=by rw [←hW0];exact (heap_old (by simp)).trans (heap_new rfl)
 have r1:W0.heap[w.heap.size+1]?=some (.cells (cel (sState oState)) 49):=by rw [←hW0];exact heap_new (by simp)
 have hB0:Up w W0:=by rw [←hW0];exact ((Below.refl _ _).alloc (Nat.le_refl _) _).alloc (by simp) _
 have hri:=rright_any x W0 hx.r' (hw.below hB0).r' ⟨hx.o10.1,hx.o4.1.1,hx.o18.1.1,hx.o19.1.1,hx.o20.1.1⟩
 have lx:=lvState_run r0
 have z:=zeroState
 have bz:=bdState_0
 have HB:=hid hB0
 have HW:=hid hW0
 have R0:=hid r0
 have R1:=hid r1
 have HRI:=hid hri
 clear hri hB0 hW0 r0 r1 hx hw
 by_cases he:e=0
 ·subst he
  cases hR:rightB x
  ·rw [hR] at HRI
   have eE:dnE x 0=2:=by unfold dnE;rw [hR];rfl
   have eS:dnS x 0=oState:=by unfold dnS;rw [eE];rfl
   rw [eE,eS]
   clear eE eS hR R0
   go_enter Tryz.func24,Tryz.ntmps24
   go_upto_region 1 with fail
   rw [HW.out]
   clear HW z
   go_wp2_with (go_at_call 21;refine HRI.out.mono ?_;rintro e' w1 ⟨rfl,hb1⟩;have s1:=svState_run (upR hb1 R1.out) oState)
   exact retState 4 5 (w.heap.size+1) oState 49 (.int .i64 2) rfl rfl rfl rfl (setRow_at (upR hb1 R1.out)) ⟨rfl,below_row (upT HB.out hb1) (by omega) _⟩
  ·rw [hR] at HRI
   have eE:dnE x 0=0:=by unfold dnE;rw [hR];rfl
   have eS:dnS x 0=x:=by unfold dnS;rw [eE];rfl
   rw [eE,eS]
   clear eE eS hR
   go_enter Tryz.func24,Tryz.ntmps24
   go_upto_region 1 with fail
   rw [HW.out]
   clear HW z
   go_wp2_with (go_at_call 21;refine HRI.out.mono ?_;rintro e' w1 ⟨rfl,hb1⟩;have lx1:=lvState_run (upR hb1 R0.out);have s1:=svState_run (upR hb1 R1.out) x)
   exact retState 4 5 (w.heap.size+1) x 49 (.int .i64 0) rfl rfl rfl rfl (setRow_at (upR hb1 R1.out)) ⟨rfl,below_row (upT HB.out hb1) (by omega) _⟩
 ·have eE:dnE x e=e:=if_neg he
  have eS:dnS x e=oState:=by unfold dnS;rw [eE,if_neg he]
  rw [eE,eS]
  have s1:=svState_run R1.out oState
  have he1:(e == 0)=false:=by simp [he]
  have he2:(e != 0)=true:=by simp [he]
  clear eE eS HRI R0
  go_enter Tryz.func24,Tryz.ntmps24
  go_upto_region 1 with fail
  rw [HW.out]
  clear HW z
  go_wp2
  exact retState 4 5 (w.heap.size+1) oState 49 (.int .i64 e) rfl rfl rfl rfl (setRow_at R1.out) ⟨rfl,below_row HB.out (by omega) _⟩
set_option maxHeartbeats 8000000 in
theorem rleave_any (x : VState) (i : Int) (w : World) (hx : OkState x) (hw : InW w x) (hn : NilW x) (h0 : 0 ≤ i) :
    Calls Tryz.prog 40 #[.agg (cel (sState x)),.int .u64 i] w fun e' w'=>∃ X,e'=.returned (.tuple #[.agg (cel (sState X)),.int .i64 (lqE x i)])∧Res w.heap.size w' (lqS x i) X∧Below w.heap.size w w':=by
 obtain ⟨W0,hW0⟩:∃ W,(w.alloc (.cells (cel (sState x)) 49)).alloc (.cells (cel (sState oState)) 49)=W:=⟨_,rfl⟩
 have r0:W0.heap[w.heap.size]?=some (.cells (cel (sState x)) 49):=by rw [←hW0];exact (heap_old (by simp)).trans (heap_new rfl)
 have r1:W0.heap[w.heap.size+1]?=some (.cells (cel (sState oState)) 49):=by rw [←hW0];exact heap_new (by simp)
 have hB0:Up w W0:=by rw [←hW0];exact ((Below.refl _ _).alloc (Nat.le_refl _) _).alloc (by simp) _
 have hri:=rright_any x W0 hx.r' (hw.below hB0).r' ⟨hx.o10.1,hx.o4.1.1,hx.o18.1.1,hx.o19.1.1,hx.o20.1.1⟩
 have lx:=lvState_run r0
 have z:=zeroState
 have bz:=bdState_0
 have HB:=hid hB0
 have HW:=hid hW0
 have R0:=hid r0
 have R1:=hid r1
 cases hR:rightB x
 ·rw [hR] at hri
  have HRI:=hid hri
  have eE:lqE x i=1:=by unfold lqE;rw [hR,if_neg (fun h=>by cases h.1)]
  have eS:lqS x i=oState:=by unfold lqS;rw [eE];rfl
  rw [eE,eS]
  clear hri hB0 hW0 r0 r1 hx hw hn eE eS
  go_enter Tryz.func40,Tryz.ntmps40
  go_upto_region 1 with fail
  rw [HW.out]
  clear HW z
  go_wp2_with (go_at_call 21;refine HRI.out.mono ?_;rintro e' w1 ⟨rfl,hb1⟩;have s1:=svState_run (upR hb1 R1.out) oState)
  exact retState 4 5 (w.heap.size+1) oState 49 (.int .i64 1) rfl rfl rfl rfl (setRow_at (upR hb1 R1.out)) ⟨oState,rfl,resO _ _,below_row (upT HB.out hb1) (by omega) _⟩
 ·rw [hR] at hri
  have HRI:=hid hri
  have hsm:=right_small hR
  have nw:IntKind.u64.wrap (x.f11.n:Int)=(x.f11.n:Int):=by rw [IntKind.wrap_u64];omega
  by_cases hi:i < (x.f11.n:Int)
  ·have hi2:¬ (x.f11.n:Int)≤i:=by omega
   obtain ⟨k,rfl⟩:∃ k:Nat,i=(k:Int):=⟨i.toNat,by omega⟩
   have hkn:k < x.f11.n:=by omega
   have hrg:=(rightB_out hR).rg hx
   have hcp:∀ W:World,Up W0 W→Calls Tryz.prog 7 #[.agg (cel (sState x))] W fun e w'=>∃ X:VState,e=.returned (.agg (cel (sState X)))∧SimF x X∧CpdF W.heap.size w' X∧Below W.heap.size W w':=fun W h=>copy_full x W (hw.below (upT hB0 h)) hn (small_rch hR)
   have hqE:lqE x (k:Int)=if rightB (lvS x k)=true then 0 else 2:=by unfold lqE;rw [hR,if_pos ⟨rfl,hi⟩];rfl
   have hqS:lqS x (k:Int)=if lqE x (k:Int)=0 then lvS x k else oState:=rfl
   obtain ⟨QE,eQ⟩:∃ d,lqE x (k:Int)=d:=⟨_,rfl⟩
   rw [eQ] at hqE hqS
   rw [eQ]
   have HCP:=hid hcp
   have HRG:=hid hrg
   have HQE:=hid hqE
   have HQS:=hid hqS
   have HKN:=hid hkn
   clear hri hB0 hW0 r0 r1 hx hw hn hcp hrg hqE hqS hsm hR hkn eQ
   have c11:=fun (W:World) (h:Up W0 W)=>cS11 (upR h R0.out)
   have HC11:=hid c11
   clear c11
   obtain ⟨N,eN⟩:∃ N,x.f11.n=N:=⟨_,rfl⟩
   obtain ⟨A,eA⟩:∃ N,x.f11.a=N:=⟨_,rfl⟩
   obtain ⟨C,eC⟩:∃ N,x.f11.c=N:=⟨_,rfl⟩
   rw [eN] at nw hi hi2
   rw [eN,eA,eC] at HC11
   clear eA eC
   have EN:=hid eN
   clear eN
   go_enter Tryz.func40,Tryz.ntmps40
   go_upto_region 1 with fail
   rw [HW.out]
   clear HW
   go_upto_region 3 with (go_at_call 21;refine HRI.out.mono ?_;rintro e' w1 ⟨rfl,hb1⟩;have c11:=HC11.out w1 hb1)
   have lx1:=lvState_run (upR hb1 R0.out)
   have HCQ:=hid (HCP.out w1 hb1)
   have HU1:=hid (upT HB.out hb1)
   have Q1:=hid (upR hb1 R1.out)
   have hl1:=some_ltK Q1.out
   clear c11 HC11 HCP HRI HB R0 R1 hb1 lx nw hi hi2
   go_upto_region 4 with (go_at_call 7;refine HCQ.out.mono ?_;rintro e' w2 ⟨Y,rfl,hsim,hcd,hb2⟩;have sv:=svState_newv w2 oState Y;have HSM:=hid hsim;have HCD:=hid hcd;have HB2:=hid hb2;clear hsim hcd hb2)
   obtain ⟨V0,hV⟩:∃ V,w2.alloc (.cells (cel (sState Y)) 49)=V:=⟨_,rfl⟩
   have hbf:=BF.make HB2.out HCD.out hV
   have hbk:BK w1 w2.heap.size V0 Y:=⟨Kept.ofBelow hbf.bel,hbf.row,hbf.cpd⟩
   rw [hV]
   have hy:w1.heap.size≤w2.heap.size:=HB2.out.size
   obtain ⟨y,ey⟩:∃ y,w2.heap.size=y:=⟨_,rfl⟩
   rw [ey] at hbk hy ⊢
   have hrY:=HRG.out.sim HSM.out
   have hkY:k < Y.f11.n:=by rw [HSM.out.l11];exact HKN.out
   have hca:=rleaving_any Y k y w1 V0 hbk hrY hkY
   have HCA:=hid hca
   clear hbf hbk hV ey sv HCD HB2 HCQ lx1 hca hrY hkY z
   have HY:=hid hy
   clear hy
   go_upto_region 5 with (go_at_call 89;refine HCA.out.mono ?_;rintro e' w3 ⟨rfl,hb3⟩)
   have ly:=lvState_run hb3.row
   have hdn:=rdone_any (lvS Y k) 0 w3 ((HRG.out.sim HSM.out).lv k).ok hb3.inW
   have hdE:dnE (lvS Y k) 0=if rightB (lvS x k)=true then 0 else 2:=by rw [←rightF (lvS_sim k HSM.out)];rfl
   have hrz:dnE (lvS Y k) 0=0→SimF (lvS x k) (lvS Y k):=fun _=>lvS_sim k HSM.out
   have r13:=hb3.old Q1.out (by have:=HY.out;omega)
   obtain ⟨P,eP⟩:∃ p,lvS Y k=p:=⟨_,rfl⟩
   rw [eP] at hb3 ly hdn hrz
   have hfE:dnE P 0=QE:=by
    rw [HQE.out,←eP]
    exact hdE
   have hfS:∀ V b,V.heap[b]?=some (.cells (cel (sState oState)) 49)→Below w3.heap.size w3 V→Res w.heap.size (V.setRow b (cel (sState (dnS P 0)))) (lqS x (k:Int)) (dnS P 0):=fun V b r h=>by
    rw [HQS.out,←hfE]
    unfold dnS
    by_cases hz:dnE P 0=0
    ·rw [if_pos hz,if_pos hz]
     exact ((hb3.below h).give r _).to HU1.out.size (hrz hz)
    ·rw [if_neg hz,if_neg hz]
     exact resO _ _
   rw [hfE] at hdn
   obtain ⟨D,eD⟩:∃ d,dnS P 0=d:=⟨_,rfl⟩
   rw [eD] at hdn
   simp only [eD] at hfS
   have HDN:=hid hdn
   have HFS:=hid hfS
   have R13:=hid r13
   have HU3:=hid ((HU1.out).trans (hb3.kep.below (B:=w.heap.size) (by have:=HU1.out.size;have:=HY.out;omega) HU1.out.size))
   clear hdn hfS r13 hb3 hfE hrz hdE HCA HQE HQS HRG HSM eP eD
   go_wp2_with (go_at_call 24;refine HDN.out.mono ?_;rintro e' w4 ⟨rfl,hb4⟩;have s1:=svState_run (upR hb4 R13.out) D)
   exact retState 4 5 (w.heap.size+1) D 49 (.int .i64 QE) rfl rfl rfl rfl (setRow_at (upR hb4 R13.out)) ⟨D,rfl,HFS.out w4 _ (upR hb4 R13.out) hb4,below_row (upT HU3.out hb4) (by omega) _⟩
  ·have hi2:(x.f11.n:Int)≤i:=by omega
   have eE:lqE x i=1:=by unfold lqE;rw [if_neg (fun h=>hi h.2)]
   have eS:lqS x i=oState:=by unfold lqS;rw [eE];rfl
   rw [eE,eS]
   have c11:=fun (W:World) (h:Up W0 W)=>cS11 (upR h R0.out)
   have HC11:=hid c11
   clear hri hB0 hW0 r0 r1 hx hw hn eE eS hsm hR c11
   generalize x.f11.n=N at *
   generalize x.f11.a=A at *
   generalize x.f11.c=C at *
   go_enter Tryz.func40,Tryz.ntmps40
   go_upto_region 1 with fail
   rw [HW.out]
   clear HW z
   go_wp2_with (go_at_call 21;refine HRI.out.mono ?_;rintro e' w1 ⟨rfl,hb1⟩;have c11:=HC11.out w1 hb1;have s1:=svState_run (upR hb1 R1.out) oState)
   exact retState 4 5 (w.heap.size+1) oState 49 (.int .i64 1) rfl rfl rfl rfl (setRow_at (upR hb1 R1.out)) ⟨oState,rfl,resO _ _,below_row (upT HB.out hb1) (by omega) _⟩
end
section
open Go.RowKit
set_option linter.unusedVariables false
set_option linter.unusedSimpArgs false
set_option maxRecDepth 20000
theorem lnsS_sim {X Y:VState} (h:SimF X Y) (hl:Lns X):Lns Y:=by unfold Lns at hl ⊢;rw [h.l11,h.l21,h.l12];exact hl
theorem lns_lv {x:VState} (h:Lns x) (i:Nat):Lns (lvS x i):=by
 unfold lvS
 split<;>exact h
attribute [local go_sem ↓] lvState_eq svState_eq bdState_eq ixU_eq
set_option maxHeartbeats 4000000 in
theorem ifRight_any (x : VState) (w : World) (hx : OkState x) (hw : InW w x) (hl : Lns x) :
    Calls Tryz.prog 88 #[.agg (cel (sState x))] w fun e' w'=>e'=.returned (.tuple #[.agg (cel (sState (dnS x 0))),.int .i64 (dnE x 0)])∧Below w.heap.size w w':=by
 obtain ⟨W0,hW0⟩:∃ W,(w.alloc (.cells (cel (sState x)) 49)).alloc (.cells (cel (sState oState)) 49)=W:=⟨_,rfl⟩
 have r0:W0.heap[w.heap.size]?=some (.cells (cel (sState x)) 49):=by rw [←hW0];exact (heap_old (by simp)).trans (heap_new rfl)
 have r1:W0.heap[w.heap.size+1]?=some (.cells (cel (sState oState)) 49):=by rw [←hW0];exact heap_new (by simp)
 have hB0:Up w W0:=by rw [←hW0];exact ((Below.refl _ _).alloc (Nat.le_refl _) _).alloc (by simp) _
 have hri:=right_any x W0 hx.r' (hw.below hB0).r' hl
 have lx:=lvState_run r0
 have z:=zeroState
 have bz:=bdState_0
 have HB:=hid hB0
 have HW:=hid hW0
 have R0:=hid r0
 have R1:=hid r1
 have HRI:=hid hri
 clear hri hB0 hW0 r0 r1 hx hw
 cases hR:rightB x
 ·rw [hR] at HRI
  have eE:dnE x 0=2:=by unfold dnE;rw [hR];rfl
  have eS:dnS x 0=oState:=by unfold dnS;rw [eE];rfl
  rw [eE,eS]
  clear eE eS hR R0
  go_enter Tryz.func88,Tryz.ntmps88
  go_upto_region 1 with fail
  rw [HW.out]
  clear HW z
  go_wp2_with (go_at_call 16;refine HRI.out.mono ?_;rintro e' w1 ⟨rfl,hb1⟩;have s1:=svState_run (upR hb1 R1.out) oState)
  exact retState 2 3 (w.heap.size+1) oState 49 (.int .i64 2) rfl rfl rfl rfl (setRow_at (upR hb1 R1.out)) ⟨rfl,below_row (upT HB.out hb1) (by omega) _⟩
 ·rw [hR] at HRI
  have eE:dnE x 0=0:=by unfold dnE;rw [hR];rfl
  have eS:dnS x 0=x:=by unfold dnS;rw [eE];rfl
  rw [eE,eS]
  clear eE eS hR
  go_enter Tryz.func88,Tryz.ntmps88
  go_upto_region 1 with fail
  rw [HW.out]
  clear HW z
  go_wp2_with (go_at_call 16;refine HRI.out.mono ?_;rintro e' w1 ⟨rfl,hb1⟩;have lx1:=lvState_run (upR hb1 R0.out);have s1:=svState_run (upR hb1 R1.out) x)
  exact retState 2 3 (w.heap.size+1) x 49 (.int .i64 0) rfl rfl rfl rfl (setRow_at (upR hb1 R1.out)) ⟨rfl,below_row (upT HB.out hb1) (by omega) _⟩
set_option maxHeartbeats 8000000 in
theorem leave_prog (x : VState) (i : Int) (w : World) (hx : OkState x) (hw : InW w x) (hn : NilW x) (hl : Lns x) (h0 : 0 ≤ i) :
    Calls Tryz.prog 35 #[.agg (cel (sState x)),.int .u64 i] w fun e' w'=>∃ X,e'=.returned (.tuple #[.agg (cel (sState X)),.int .i64 (lqE x i)])∧Res w.heap.size w' (lqS x i) X∧Below w.heap.size w w':=by
 obtain ⟨W0,hW0⟩:∃ W,(w.alloc (.cells (cel (sState x)) 49)).alloc (.cells (cel (sState oState)) 49)=W:=⟨_,rfl⟩
 have r0:W0.heap[w.heap.size]?=some (.cells (cel (sState x)) 49):=by rw [←hW0];exact (heap_old (by simp)).trans (heap_new rfl)
 have r1:W0.heap[w.heap.size+1]?=some (.cells (cel (sState oState)) 49):=by rw [←hW0];exact heap_new (by simp)
 have hB0:Up w W0:=by rw [←hW0];exact ((Below.refl _ _).alloc (Nat.le_refl _) _).alloc (by simp) _
 have hri:=right_any x W0 hx.r' (hw.below hB0).r' hl
 have lx:=lvState_run r0
 have z:=zeroState
 have bz:=bdState_0
 have HB:=hid hB0
 have HW:=hid hW0
 have R0:=hid r0
 have R1:=hid r1
 cases hR:rightB x
 ·rw [hR] at hri
  have HRI:=hid hri
  have eE:lqE x i=1:=by unfold lqE;rw [hR,if_neg (fun h=>by cases h.1)]
  have eS:lqS x i=oState:=by unfold lqS;rw [eE];rfl
  rw [eE,eS]
  clear hri hB0 hW0 r0 r1 hx hw hn eE eS
  go_enter Tryz.func35,Tryz.ntmps35
  go_upto_region 1 with fail
  rw [HW.out]
  clear HW z
  go_wp2_with (go_at_call 16;refine HRI.out.mono ?_;rintro e' w1 ⟨rfl,hu⟩;have s1:=svState_run (upR hu R1.out) oState)
  exact retState 4 5 (w.heap.size+1) oState 49 (.int .i64 1) rfl rfl rfl rfl (setRow_at (upR hu R1.out)) ⟨oState,rfl,resO _ _,below_row (upT HB.out hu) (by omega) _⟩
 ·rw [hR] at hri
  have HRI:=hid hri
  have hsm:=right_small hR
  have hth:=fun W=>thereS_any x i W hsm.2.2.1
  by_cases hi:i < (x.f11.n:Int)
  ·obtain ⟨k,rfl⟩:∃ k:Nat,i=(k:Int):=⟨i.toNat,by omega⟩
   have hkn:k < x.f11.n:=by omega
   rw [decide_eq_true hi] at hth
   have HTH:=hid hth
   have hrg:=(rightB_out hR).rg hx
   have hqE:lqE x (k:Int)=if rightB (lvS x k)=true then 0 else 2:=by unfold lqE;rw [hR,if_pos ⟨rfl,hi⟩];rfl
   have hqS:lqS x (k:Int)=if lqE x (k:Int)=0 then lvS x k else oState:=rfl
   obtain ⟨QE,eQ⟩:∃ d,lqE x (k:Int)=d:=⟨_,rfl⟩
   rw [eQ] at hqE hqS
   rw [eQ]
   have hcp:∀ W:World,Up W0 W→Calls Tryz.prog 19 #[.agg (cel (sState x))] W fun e w'=>∃ X:VState,e=.returned (.agg (cel (sState X)))∧SimF x X∧CpdF W.heap.size w' X∧Below W.heap.size W w':=fun W h=>copyS_any x W (hw.below (upT hB0 h)) hn (small_rch hR)
   have HCP:=hid hcp
   have HQE:=hid hqE
   have HQS:=hid hqS
   have HRT:=hid hR
   have HRG:=hid hrg
   have HKN:=hid hkn
   clear hri hB0 hW0 r0 r1 hx hw hn hR hcp hqE hqS hrg hsm hth hkn hi eQ
   go_enter Tryz.func35,Tryz.ntmps35
   go_upto_region 1 with fail
   rw [HW.out]
   clear HW z
   go_upto_region 3 with (first | (go_at_call 16;refine HRI.out.mono ?_;rintro e' w1a ⟨rfl,hb1⟩;have lx1:=lvState_run (upR hb1 R0.out);have HB1:=hid hb1;clear hb1) | (go_at_call 86;refine (HTH.out _).mono ?_;rintro e' w1 ⟨rfl,hb1b⟩))
   have hb1:=upT HB1.out hb1b
   replace lx1:=lvState_run (upR hb1 R0.out)
   have HCQ:=hid (HCP.out w1 hb1)
   have HU1:=hid (upT HB.out hb1)
   have Q0:=hid (upR hb1 R0.out)
   have Q1:=hid (upR hb1 R1.out)
   have hl1:=some_ltK Q1.out
   clear HCP HRI HTH R0 R1 hb1 hb1b HB1 lx
   go_upto_region 4 with (go_at_call 19;refine HCQ.out.mono ?_;rintro e' w2 ⟨X,rfl,hsim,hcd,hb2⟩;have sv:=svState_run (upR hb2 Q0.out) X;have HSM:=hid hsim;have HCD:=hid hcd;have HB2:=hid hb2;clear hsim hcd hb2)
   obtain ⟨hbf,hcc⟩:=BF.own (Nat.le_refl w.heap.size) HU1.out HB2.out (upR HB2.out Q0.out) HCD.out (by rw [cel_size,cel_size];rfl)
   have hbk:BK w1 w.heap.size (w2.setRow w.heap.size (cel (sState X))) X:=⟨(Kept.ofBelow HB2.out).setRow _,hbf.row,hcc⟩
   obtain ⟨V0,hV⟩:∃ V,w2.setRow w.heap.size (cel (sState X))=V:=⟨_,rfl⟩
   rw [hV] at hbk ⊢
   clear hV hbf hcc sv HCD HB2 HCQ
   have hrX:=HRG.out.sim HSM.out
   have hkX:k < X.f11.n:=by rw [HSM.out.l11];exact HKN.out
   have hll:=letLeave_any X k w.heap.size w1 V0 hbk hrX hkX
   have HLL:=hid hll
   have HRX:=hid hrX
   clear hll hbk hrX hkX lx1 HRG
   go_upto_region 5 with (go_at_call 87;refine HLL.out.mono ?_;rintro e' w3 ⟨rfl,hb3⟩)
   have ly:=lvState_run hb3.row
   have hRP:Rg (lvS X k):=HRX.out.lv k
   have r13:=hb3.old Q1.out (by omega)
   obtain ⟨P,eP⟩:∃ q9,(lvS X k)=q9:=⟨_,rfl⟩
   have hrz:SimF (lvS x k) P:=by rw [←eP];exact lvS_sim k HSM.out
   rw [eP] at hb3 ly hRP
   have hlnP:rightB x=true→Lns P:=fun _=>lnsS_sim hrz (lns_lv (right_lns HRT.out) k)
   have hir:=ifRight_any P w3 hRP.ok hb3.inW (hlnP HRT.out)
   have hfE:dnE P 0=QE:=by rw [HQE.out];show (if rightB P=true then (0:Int) else 2)=_;rw [rightF hrz]
   have hfS:∀ V b,V.heap[b]?=some (.cells (cel (sState oState)) 49)→Below w3.heap.size w3 V→Res w.heap.size (V.setRow b (cel (sState (dnS P 0)))) (lqS x (k:Int)) (dnS P 0):=fun V b r h=>by
    rw [HQS.out,←hfE]
    unfold dnS
    by_cases hz:dnE P 0=0
    ·rw [if_pos hz,if_pos hz]
     exact ((hb3.below h).give r _).to HU1.out.size hrz
    ·rw [if_neg hz,if_neg hz]
     exact resO _ _
   rw [hfE] at hir
   obtain ⟨D,eD⟩:∃ d,dnS P 0=d:=⟨_,rfl⟩
   rw [eD] at hir
   simp only [eD] at hfS
   have HDN:=hid hir
   have HFS:=hid hfS
   have R13:=hid r13
   have HU3:=hid ((HU1.out).trans (hb3.kep.below (B:=w.heap.size) (by omega) HU1.out.size))
   clear hir hfS r13 hb3 hfE hrz hlnP hRP HQE HQS HSM eP eD HLL
   go_wp2_with (go_at_call 88;refine HDN.out.mono ?_;rintro e' w4 ⟨rfl,hb4⟩;have s1:=svState_run (upR hb4 R13.out) D)
   exact retState 4 5 (w.heap.size+1) D 49 (.int .i64 QE) rfl rfl rfl rfl (setRow_at (upR hb4 R13.out)) ⟨D,rfl,HFS.out w4 _ (upR hb4 R13.out) hb4,below_row (upT HU3.out hb4) (by omega) _⟩
  ·rw [decide_eq_false hi] at hth
   have HTH:=hid hth
   have eE:lqE x i=1:=by unfold lqE;rw [if_neg (fun h=>hi h.2)]
   have eS:lqS x i=oState:=by unfold lqS;rw [eE];rfl
   rw [eE,eS]
   clear hri hB0 hW0 r0 r1 hx hw hn eE eS hsm hR hth hi
   go_enter Tryz.func35,Tryz.ntmps35
   go_upto_region 1 with fail
   rw [HW.out]
   clear HW z
   go_wp2_with (first | (go_at_call 16;refine HRI.out.mono ?_;rintro e' w1 ⟨rfl,hb1⟩;have lx1:=lvState_run (upR hb1 R0.out);have HB1:=hid hb1;clear hb1) | (go_at_call 86;refine (HTH.out _).mono ?_;rintro e' w1b ⟨rfl,hb1b⟩;have hu:=upT HB1.out hb1b;have s1:=svState_run (upR hu R1.out) oState))
   exact retState 4 5 (w.heap.size+1) oState 49 (.int .i64 1) rfl rfl rfl rfl (setRow_at (upR hu R1.out)) ⟨oState,rfl,resO _ _,below_row (upT HB.out hu) (by omega) _⟩
end
section
open Go.RowKit
set_option linter.unusedVariables false
set_option linter.unusedSimpArgs false
set_option maxRecDepth 20000
def XA (g1 g2 g3 g4 g5:Nat):VState:={ X2 g1 g2 g3 g4 g5 with f12:=⟨some ⟨g2,0,none⟩,1,1,fun _=>32000000000⟩ }
theorem right_xA (g1 g2 g3 g4 g5:Nat):rightB (XA g1 g2 g3 g4 g5)=true∧rightB (sloS (XA g1 g2 g3 g4 g5) 0 0)=true∧((sloS (XA g1 g2 g3 g4 g5) 0 0).f11.z 0).f6=3∧((sloS (XA g1 g2 g3 g4 g5) 0 0).f11.z 0).f3=true∧(sloS (XA g1 g2 g3 g4 g5) 0 0).f11.n=1 :=
 ⟨by kernel_rfl,by kernel_rfl,by kernel_rfl,by kernel_rfl,by kernel_rfl⟩
attribute [local go_sem ↓] lvState_eq svState_eq bdState_eq lvValidator_eq svValidator_eq ixValidator_eq bvV_eq bsV_eq ixU_eq
def ixBo (x i:Value):Sem Value:=Instr.indexAt 51 x i
theorem ixBo_eq (x i:Value):Instr.indexAt 51 x i=ixBo x i:=rfl
attribute [local go_sem ↓] ixBo_eq
theorem lq_all {x X:VState} (i:Int) (h:OkState x) (hl:Lns x) (hs:SimF x X):SimF (lqS x i) (lqS X i)∧OkState (lqS x i)∧Lns (lqS x i)∧(lqE x i=0→Rch (lqS x i)):=by
 refine ⟨lqS_sim hs i,?_⟩
 unfold lqS
 by_cases hz:lqE x i=0
 ·rw [if_pos hz]
  have hz2:=hz
  unfold lqE at hz2
  by_cases hc:rightB x=true∧i < (x.f11.n:Int)
  ·rw [if_pos hc] at hz2
   by_cases hr:rightB (lvS x i.toNat)=true
   ·exact ⟨ok_lv h (rightB_out hc.1).c7 _,right_lns hr,fun _=>small_rch hr⟩
   ·rw [if_neg hr] at hz2;omega
  ·rw [if_neg hc] at hz2;omega
 ·rw [if_neg hz]
  exact ⟨ok_z15,lns_z,fun h=>absurd h hz⟩
end
end Go.Proofs.YtdamhdnljnifcaaGreatDoor
