/- A part. -/
import Derived.Test.YtfgmddnfhphdeaaGreatDoorSlP
import Derived.Test.YtfgmddnfhphdeaaGreatDoorQK
import Derived.Test.YtfgmddnfhphdeaaGreatDoorQN
import Derived.Test.YtfgmddnfhphdeaaGreatDoorPkB
import Derived.Test.YtfgmddnfhphdeaaGreatDoorQL
import Derived.Test.YtfgmddnfhphdeaaGreatDoorQH
import Derived.Test.YtfgmddnfhphdeaaGreatDoorQG
import Derived.Test.YtfgmddnfhphdeaaGreatDoorQI
import Derived.Test.YtfgmddnfhphdeaaGreatDoorQT
import Derived.Test.YtfgmddnfhphdeaaGreatDoorQD
namespace Go.Proofs.YtfgmddnfhphdeaaGreatDoor
open Go.RowKit
set_option linter.unusedVariables false
set_option linter.unusedSimpArgs false
section
open Go.RowKit
set_option linter.unusedVariables false
set_option linter.unusedSimpArgs false
set_option maxRecDepth 20000
theorem lnsS_sim {X Y:VState} (h:SimF X Y) (hl:Lns X):Lns Y:=by unfold Lns at hl ⊢;rw [h.l11,h.l21,h.l12];exact hl
theorem lns_lv {x:VState} (h:Lns x) (i:Nat):Lns (lvS x i):=by
 unfold lvS
 split<;>exact h
attribute [local go_sem ↓] lvState_eq svState_eq bdState_eq ixU_eq
set_option maxHeartbeats 4000000 in
theorem ifRight_any (x : VState) (w : World) (hx : OkState x) (hw : InW w x) (hl : Lns x) :
    Calls Tryz.prog 81 #[.agg (cel (sState x))] w fun e' w'=>e'=.returned (.tuple #[.agg (cel (sState (dnS x 0))),.int .i64 (dnE x 0)])∧Below w.heap.size w w':=by
 obtain ⟨W0,hW0⟩:∃ W,(w.alloc (.cells (cel (sState x)) 49)).alloc (.cells (cel (sState oState)) 49)=W:=⟨_,rfl⟩
 have r0:W0.heap[w.heap.size]?=some (.cells (cel (sState x)) 49):=by rw [←hW0];exact (heap_old (by simp)).trans (heap_new rfl)
 have r1:W0.heap[w.heap.size+1]?=some (.cells (cel (sState oState)) 49):=by rw [←hW0];exact heap_new (by simp)
 have hB0:Up w W0:=by rw [←hW0];exact ((Below.refl _ _).alloc (Nat.le_refl _) _).alloc (by simp) _
 have hri:=right_any x W0 hx.r' (hw.below hB0).r' hl
 have lx:=lvState_run r0
 have z:=zeroState
 have bz:=bdState_0
 have HB:=hid hB0
 have HW:=hid hW0
 have R0:=hid r0
 have R1:=hid r1
 have HRI:=hid hri
 clear hri hB0 hW0 r0 r1 hx hw
 cases hR:rightB x
 ·rw [hR] at HRI
  have eE:dnE x 0=2:=by unfold dnE;rw [hR];rfl
  have eS:dnS x 0=oState:=by unfold dnS;rw [eE];rfl
  rw [eE,eS]
  clear eE eS hR R0
  go_enter Tryz.func81,Tryz.ntmps81
  go_upto_region 1 with fail
  rw [HW.out]
  clear HW z
  go_wp2_with (go_at_call 14;refine HRI.out.mono ?_;rintro e' w1 ⟨rfl,hb1⟩;have s1:=svState_run (upR hb1 R1.out) oState)
  exact retState 2 3 (w.heap.size+1) oState 49 (.int .i64 2) rfl rfl rfl rfl (setRow_at (upR hb1 R1.out)) ⟨rfl,below_row (upT HB.out hb1) (by omega) _⟩
 ·rw [hR] at HRI
  have eE:dnE x 0=0:=by unfold dnE;rw [hR];rfl
  have eS:dnS x 0=x:=by unfold dnS;rw [eE];rfl
  rw [eE,eS]
  clear eE eS hR
  go_enter Tryz.func81,Tryz.ntmps81
  go_upto_region 1 with fail
  rw [HW.out]
  clear HW z
  go_wp2_with (go_at_call 14;refine HRI.out.mono ?_;rintro e' w1 ⟨rfl,hb1⟩;have lx1:=lvState_run (upR hb1 R0.out);have s1:=svState_run (upR hb1 R1.out) x)
  exact retState 2 3 (w.heap.size+1) x 49 (.int .i64 0) rfl rfl rfl rfl (setRow_at (upR hb1 R1.out)) ⟨rfl,below_row (upT HB.out hb1) (by omega) _⟩
set_option maxHeartbeats 8000000 in
theorem leave_prog (x : VState) (i : Int) (w : World) (hx : OkState x) (hw : InW w x) (hn : NilW x) (hl : Lns x) (h0 : 0 ≤ i) :
    Calls Tryz.prog 33 #[.agg (cel (sState x)),.int .u64 i] w fun e' w'=>∃ X,e'=.returned (.tuple #[.agg (cel (sState X)),.int .i64 (lqE x i)])∧Res w.heap.size w' (lqS x i) X∧Below w.heap.size w w':=by
 obtain ⟨W0,hW0⟩:∃ W,(w.alloc (.cells (cel (sState x)) 49)).alloc (.cells (cel (sState oState)) 49)=W:=⟨_,rfl⟩
 have r0:W0.heap[w.heap.size]?=some (.cells (cel (sState x)) 49):=by rw [←hW0];exact (heap_old (by simp)).trans (heap_new rfl)
 have r1:W0.heap[w.heap.size+1]?=some (.cells (cel (sState oState)) 49):=by rw [←hW0];exact heap_new (by simp)
 have hB0:Up w W0:=by rw [←hW0];exact ((Below.refl _ _).alloc (Nat.le_refl _) _).alloc (by simp) _
 have hri:=right_any x W0 hx.r' (hw.below hB0).r' hl
 have lx:=lvState_run r0
 have z:=zeroState
 have bz:=bdState_0
 have HB:=hid hB0
 have HW:=hid hW0
 have R0:=hid r0
 have R1:=hid r1
 cases hR:rightB x
 ·rw [hR] at hri
  have HRI:=hid hri
  have eE:lqE x i=1:=by unfold lqE;rw [hR,if_neg (fun h=>by cases h.1)]
  have eS:lqS x i=oState:=by unfold lqS;rw [eE];rfl
  rw [eE,eS]
  clear hri hB0 hW0 r0 r1 hx hw hn eE eS
  go_enter Tryz.func33,Tryz.ntmps33
  go_upto_region 1 with fail
  rw [HW.out]
  clear HW z
  go_wp2_with (go_at_call 14;refine HRI.out.mono ?_;rintro e' w1 ⟨rfl,hu⟩;have s1:=svState_run (upR hu R1.out) oState)
  exact retState 4 5 (w.heap.size+1) oState 49 (.int .i64 1) rfl rfl rfl rfl (setRow_at (upR hu R1.out)) ⟨oState,rfl,resO _ _,below_row (upT HB.out hu) (by omega) _⟩
 ·rw [hR] at hri
  have HRI:=hid hri
  have hsm:=right_small hR
  have hth:=fun W=>thereS_any x i W hsm.2.2.1
  by_cases hi:i < (x.f11.n:Int)
  ·obtain ⟨k,rfl⟩:∃ k:Nat,i=(k:Int):=⟨i.toNat,by omega⟩
   have hkn:k < x.f11.n:=by omega
   rw [decide_eq_true hi] at hth
   have HTH:=hid hth
   have hrg:=(rightB_out hR).rg hx
   have hqE:lqE x (k:Int)=if rightB (lvS x k)=true then 0 else 2:=by unfold lqE;rw [hR,if_pos ⟨rfl,hi⟩];rfl
   have hqS:lqS x (k:Int)=if lqE x (k:Int)=0 then lvS x k else oState:=rfl
   obtain ⟨QE,eQ⟩:∃ d,lqE x (k:Int)=d:=⟨_,rfl⟩
   rw [eQ] at hqE hqS
   rw [eQ]
   have hcp:∀ W:World,Up W0 W→Calls Tryz.prog 17 #[.agg (cel (sState x))] W fun e w'=>∃ X:VState,e=.returned (.agg (cel (sState X)))∧SimF x X∧CpdF W.heap.size w' X∧Below W.heap.size W w':=fun W h=>copyS_any x W (hw.below (upT hB0 h)) hn (small_rch hR)
   have HCP:=hid hcp
   have HQE:=hid hqE
   have HQS:=hid hqS
   have HRT:=hid hR
   have HRG:=hid hrg
   have HKN:=hid hkn
   clear hri hB0 hW0 r0 r1 hx hw hn hR hcp hqE hqS hrg hsm hth hkn hi eQ
   go_enter Tryz.func33,Tryz.ntmps33
   go_upto_region 1 with fail
   rw [HW.out]
   clear HW z
   go_upto_region 3 with (first | (go_at_call 14;refine HRI.out.mono ?_;rintro e' w1a ⟨rfl,hb1⟩;have lx1:=lvState_run (upR hb1 R0.out);have HB1:=hid hb1;clear hb1) | (go_at_call 79;refine (HTH.out _).mono ?_;rintro e' w1 ⟨rfl,hb1b⟩))
   have hb1:=upT HB1.out hb1b
   replace lx1:=lvState_run (upR hb1 R0.out)
   have HCQ:=hid (HCP.out w1 hb1)
   have HU1:=hid (upT HB.out hb1)
   have Q0:=hid (upR hb1 R0.out)
   have Q1:=hid (upR hb1 R1.out)
   have hl1:=some_ltK Q1.out
   clear HCP HRI HTH R0 R1 hb1 hb1b HB1 lx
   go_upto_region 4 with (go_at_call 17;refine HCQ.out.mono ?_;rintro e' w2 ⟨X,rfl,hsim,hcd,hb2⟩;have sv:=svState_run (upR hb2 Q0.out) X;have HSM:=hid hsim;have HCD:=hid hcd;have HB2:=hid hb2;clear hsim hcd hb2)
   obtain ⟨hbf,hcc⟩:=BF.own (Nat.le_refl w.heap.size) HU1.out HB2.out (upR HB2.out Q0.out) HCD.out (by rw [cel_size,cel_size];rfl)
   have hbk:BK w1 w.heap.size (w2.setRow w.heap.size (cel (sState X))) X:=⟨(Kept.ofBelow HB2.out).setRow _,hbf.row,hcc⟩
   obtain ⟨V0,hV⟩:∃ V,w2.setRow w.heap.size (cel (sState X))=V:=⟨_,rfl⟩
   rw [hV] at hbk ⊢
   clear hV hbf hcc sv HCD HB2 HCQ
   have hrX:=HRG.out.sim HSM.out
   have hkX:k < X.f11.n:=by rw [HSM.out.l11];exact HKN.out
   have hll:=letLeave_any X k w.heap.size w1 V0 hbk hrX hkX
   have HLL:=hid hll
   have HRX:=hid hrX
   clear hll hbk hrX hkX lx1 HRG
   go_upto_region 5 with (go_at_call 80;refine HLL.out.mono ?_;rintro e' w3 ⟨rfl,hb3⟩)
   have ly:=lvState_run hb3.row
   have hRP:Rg (lvS X k):=HRX.out.lv k
   have r13:=hb3.old Q1.out (by omega)
   obtain ⟨P,eP⟩:∃ q9,(lvS X k)=q9:=⟨_,rfl⟩
   have hrz:SimF (lvS x k) P:=by rw [←eP];exact lvS_sim k HSM.out
   rw [eP] at hb3 ly hRP
   have hlnP:rightB x=true→Lns P:=fun _=>lnsS_sim hrz (lns_lv (right_lns HRT.out) k)
   have hir:=ifRight_any P w3 hRP.ok hb3.inW (hlnP HRT.out)
   have hfE:dnE P 0=QE:=by rw [HQE.out];show (if rightB P=true then (0:Int) else 2)=_;rw [rightF hrz]
   have hfS:∀ V b,V.heap[b]?=some (.cells (cel (sState oState)) 49)→Below w3.heap.size w3 V→Res w.heap.size (V.setRow b (cel (sState (dnS P 0)))) (lqS x (k:Int)) (dnS P 0):=fun V b r h=>by
    rw [HQS.out,←hfE]
    unfold dnS
    by_cases hz:dnE P 0=0
    ·rw [if_pos hz,if_pos hz]
     exact ((hb3.below h).give r _).to HU1.out.size hrz
    ·rw [if_neg hz,if_neg hz]
     exact resO _ _
   rw [hfE] at hir
   obtain ⟨D,eD⟩:∃ d,dnS P 0=d:=⟨_,rfl⟩
   rw [eD] at hir
   simp only [eD] at hfS
   have HDN:=hid hir
   have HFS:=hid hfS
   have R13:=hid r13
   have HU3:=hid ((HU1.out).trans (hb3.kep.below (B:=w.heap.size) (by omega) HU1.out.size))
   clear hir hfS r13 hb3 hfE hrz hlnP hRP HQE HQS HSM eP eD HLL
   go_wp2_with (go_at_call 81;refine HDN.out.mono ?_;rintro e' w4 ⟨rfl,hb4⟩;have s1:=svState_run (upR hb4 R13.out) D)
   exact retState 4 5 (w.heap.size+1) D 49 (.int .i64 QE) rfl rfl rfl rfl (setRow_at (upR hb4 R13.out)) ⟨D,rfl,HFS.out w4 _ (upR hb4 R13.out) hb4,below_row (upT HU3.out hb4) (by omega) _⟩
  ·rw [decide_eq_false hi] at hth
   have HTH:=hid hth
   have eE:lqE x i=1:=by unfold lqE;rw [if_neg (fun h=>hi h.2)]
   have eS:lqS x i=oState:=by unfold lqS;rw [eE];rfl
   rw [eE,eS]
   clear hri hB0 hW0 r0 r1 hx hw hn eE eS hsm hR hth hi
   go_enter Tryz.func33,Tryz.ntmps33
   go_upto_region 1 with fail
   rw [HW.out]
   clear HW z
   go_wp2_with (first | (go_at_call 14;refine HRI.out.mono ?_;rintro e' w1 ⟨rfl,hb1⟩;have lx1:=lvState_run (upR hb1 R0.out);have HB1:=hid hb1;clear hb1) | (go_at_call 79;refine (HTH.out _).mono ?_;rintro e' w1b ⟨rfl,hb1b⟩;have hu:=upT HB1.out hb1b;have s1:=svState_run (upR hu R1.out) oState))
   exact retState 4 5 (w.heap.size+1) oState 49 (.int .i64 1) rfl rfl rfl rfl (setRow_at (upR hu R1.out)) ⟨oState,rfl,resO _ _,below_row (upT HB.out hu) (by omega) _⟩
end
section
open Go.RowKit
set_option linter.unusedVariables false
set_option linter.unusedSimpArgs false
set_option maxRecDepth 20000
def eqY (c d:Nat→Int):Bool:=(List.range 48).all fun j=>c j == d j
theorem eq48g (w:World) (c d:Nat→Int):(Op.equalIn 10000 44 (.agg (vs .u8 48 c)) (.agg (vs .u8 48 d))).run Tryz.prog w=.ok (eqY c d) w:=by
 have hi:∃ i,Tryz.prog.info? 5=some i:=Option.isSome_iff_exists.1 (by kernel_rfl)
 obtain ⟨i,hi⟩:=hi
 have hc:Tryz.prog.cellsOf 5=1:=by kernel_rfl
 rw [run_equalIn_array w 9999 _ _ Tryz.underlying44 hi,hc]
 exact run_eqItems_ints (P:=Tryz.prog) 9998 5 .u8 .u8 Tryz.underlying5 agg_u8 (vs .u8 48 c) (vs .u8 48 d) c d w (List.range 48) (by
  intro j hj
  have hj:=List.mem_range.1 hj
  exact ⟨vs_get _ _ _ _ hj,vs_get _ _ _ _ hj⟩)
def owN (z:Nat→VValidator) (k:Nat→Int):Nat→Nat
 | 0 => 0
 | n + 1 => if owN z k n < n then owN z k n else if eqY (z n).f0 k = true then n else n + 1
theorem owN_none (z:Nat→VValidator) (k:Nat→Int):∀ n,(∀ j,j < n→eqY (z j).f0 k=false)→owN z k n=n
 | 0, _ => rfl
 | n + 1, h => by
  show (if owN z k n < n then owN z k n else if eqY (z n).f0 k=true then n else n+1)=_
  rw [owN_none z k n fun j hj=>h j (by omega),if_neg (Nat.lt_irrefl n),h n (by omega)]
  rfl
theorem owN_at (z:Nat→VValidator) (k:Nat→Int) (i:Nat) (h:∀ j,j < i→eqY (z j).f0 k=false) (h1:eqY (z i).f0 k=true):∀ n,i < n→owN z k n=i
 | 0, h0 => absurd h0 (Nat.not_lt_zero _)
 | n + 1, h0 => by
  show (if owN z k n < n then owN z k n else if eqY (z n).f0 k=true then n else n+1)=_
  by_cases hn:i < n
  ·rw [owN_at z k i h h1 n hn,if_pos hn]
  ·obtain rfl:i=n:=by omega
   rw [owN_none z k i h,if_neg (Nat.lt_irrefl i),if_pos h1]
def efV (n:Int):Int:=min 32000000000 (n - n % 1000000000)
def nvV (d:VDepositData):VValidator:=⟨d.f0,d.f1,efV d.f2,false,far,far,far,far⟩
theorem efV_bd {n:Int} (h:0≤n):0≤efV n∧efV n≤32000000000:=by
 unfold efV
 omega
def vnZ {α:Type} (z:Nat→α) (n:Nat) (v:α) (j:Nat):α:=if j < n then z j else v
def mr11 (Y:VState) (a:Option Addr) (c:Nat) (v:VValidator):VState:={ Y with f11:=⟨a,Y.f11.n+1,c,vnZ Y.f11.z Y.f11.n v⟩ }
def mr12 (Y:VState) (a:Option Addr) (c:Nat) (v:Int):VState:={ Y with f12:=⟨a,Y.f12.n+1,c,vnZ Y.f12.z Y.f12.n v⟩ }
def mr15 (Y:VState) (a:Option Addr) (c:Nat) (v:Int):VState:={ Y with f15:=⟨a,Y.f15.n+1,c,vnZ Y.f15.z Y.f15.n v⟩ }
def mr16 (Y:VState) (a:Option Addr) (c:Nat) (v:Int):VState:={ Y with f16:=⟨a,Y.f16.n+1,c,vnZ Y.f16.z Y.f16.n v⟩ }
def mr21 (Y:VState) (a:Option Addr) (c:Nat) (v:Int):VState:={ Y with f21:=⟨a,Y.f21.n+1,c,vnZ Y.f21.z Y.f21.n v⟩ }
def upS (x:VState):VState:={ x with f10:=w64 (x.f10+1) }
def enS (x:VState) (d:VDepositData):VState:=mr21 (mr16 (mr15 (mr12 (mr11 x none 0 (nvV d)) none 0 d.f2) none 0 0) none 0 0) none 0 0
theorem upS_sim {x X:VState} (h:SimF x X):SimF (upS x) (upS X):=⟨h.e0,h.e1,h.e2,h.e3,h.e4,h.e5,h.e6,h.l7,h.z7,h.e8,h.l9,h.z9,by show w64 (X.f10+1)=w64 (x.f10+1);rw [h.e10],h.l11,h.z11,h.l12,h.z12,h.e13,h.e14,h.l15,h.z15,h.l16,h.z16,h.e17,h.e18,h.e19,h.e20,h.l21,h.z21,h.e22,h.e23⟩
theorem sim11 {x X:VState} (h:SimF x X) (a a':Option Addr) (c c':Nat) (v:VValidator):SimF (mr11 x a c v) (mr11 X a' c' v):=⟨h.e0,h.e1,h.e2,h.e3,h.e4,h.e5,h.e6,h.l7,h.z7,h.e8,h.l9,h.z9,h.e10,by show X.f11.n+1=x.f11.n+1;rw [h.l11],by show vnZ X.f11.z X.f11.n v=vnZ x.f11.z x.f11.n v;rw [h.l11,h.z11],h.l12,h.z12,h.e13,h.e14,h.l15,h.z15,h.l16,h.z16,h.e17,h.e18,h.e19,h.e20,h.l21,h.z21,h.e22,h.e23⟩
theorem sim12 {x X:VState} (h:SimF x X) (a a':Option Addr) (c c':Nat) (v:Int):SimF (mr12 x a c v) (mr12 X a' c' v):=⟨h.e0,h.e1,h.e2,h.e3,h.e4,h.e5,h.e6,h.l7,h.z7,h.e8,h.l9,h.z9,h.e10,h.l11,h.z11,by show X.f12.n+1=x.f12.n+1;rw [h.l12],by show vnZ X.f12.z X.f12.n v=vnZ x.f12.z x.f12.n v;rw [h.l12,h.z12],h.e13,h.e14,h.l15,h.z15,h.l16,h.z16,h.e17,h.e18,h.e19,h.e20,h.l21,h.z21,h.e22,h.e23⟩
theorem sim15 {x X:VState} (h:SimF x X) (a a':Option Addr) (c c':Nat) (v:Int):SimF (mr15 x a c v) (mr15 X a' c' v):=⟨h.e0,h.e1,h.e2,h.e3,h.e4,h.e5,h.e6,h.l7,h.z7,h.e8,h.l9,h.z9,h.e10,h.l11,h.z11,h.l12,h.z12,h.e13,h.e14,by show X.f15.n+1=x.f15.n+1;rw [h.l15],by show vnZ X.f15.z X.f15.n v=vnZ x.f15.z x.f15.n v;rw [h.l15,h.z15],h.l16,h.z16,h.e17,h.e18,h.e19,h.e20,h.l21,h.z21,h.e22,h.e23⟩
theorem sim16 {x X:VState} (h:SimF x X) (a a':Option Addr) (c c':Nat) (v:Int):SimF (mr16 x a c v) (mr16 X a' c' v):=⟨h.e0,h.e1,h.e2,h.e3,h.e4,h.e5,h.e6,h.l7,h.z7,h.e8,h.l9,h.z9,h.e10,h.l11,h.z11,h.l12,h.z12,h.e13,h.e14,h.l15,h.z15,by show X.f16.n+1=x.f16.n+1;rw [h.l16],by show vnZ X.f16.z X.f16.n v=vnZ x.f16.z x.f16.n v;rw [h.l16,h.z16],h.e17,h.e18,h.e19,h.e20,h.l21,h.z21,h.e22,h.e23⟩
theorem sim21 {x X:VState} (h:SimF x X) (a a':Option Addr) (c c':Nat) (v:Int):SimF (mr21 x a c v) (mr21 X a' c' v):=⟨h.e0,h.e1,h.e2,h.e3,h.e4,h.e5,h.e6,h.l7,h.z7,h.e8,h.l9,h.z9,h.e10,h.l11,h.z11,h.l12,h.z12,h.e13,h.e14,h.l15,h.z15,h.l16,h.z16,h.e17,h.e18,h.e19,h.e20,by show X.f21.n+1=x.f21.n+1;rw [h.l21],by show vnZ X.f21.z X.f21.n v=vnZ x.f21.z x.f21.n v;rw [h.l21,h.z21],h.e22,h.e23⟩
theorem en_sim {x X:VState} (h:SimF x X) (d:VDepositData) (a1 a2 a3 a4 a5:Option Addr) (c1 c2 c3 c4 c5:Nat):SimF (enS x d) (mr21 (mr16 (mr15 (mr12 (mr11 X a1 c1 (nvV d)) a2 c2 d.f2) a3 c3 0) a4 c4 0) a5 c5 0) :=
 sim21 (sim16 (sim15 (sim12 (sim11 h _ _ _ _ _) _ _ _ _ _) _ _ _ _ _) _ _ _ _ _) _ _ _ _ _
theorem bal_sim {x X:VState} (h:SimF x X) (i:Nat) (n:Int):SimF (balS x i n) (balS X i n) :=
 ⟨h.e0,h.e1,h.e2,h.e3,h.e4,h.e5,h.e6,h.l7,h.z7,h.e8,h.l9,h.z9,h.e10,h.l11,h.z11,h.l12,by show (fun j=>if j=i then n else X.f12.z j)=fun j=>if j=i then n else x.f12.z j;rw [h.z12],h.e13,h.e14,h.l15,h.z15,h.l16,h.z16,h.e17,h.e18,h.e19,h.e20,h.l21,h.z21,h.e22,h.e23⟩
def dpO (x:VState) (d:VDepositData):Nat:=owN x.f11.z d.f0 x.f11.n
def dpQ (d:VDepositData):Nat→Int:=qsV d.f0 1 (tw (msV d) depV) d.f3
def tkK (x:VState) (d:VDepositData):Nat:=if dpO x d < x.f11.n then 0 else 1
def tkE (x:VState) (d:VDepositData) (f:Nat→Int) (n:Nat):Int :=
 if dpO x d < x.f11.n then (if 144115188075855872 < d.f2 then 2 else 0)
 else if gdB (dpQ d) f n=true then (if 65536≤x.f11.n then 6 else if 144115188075855872 < d.f2 then 2 else 0) else 0
def tkS (x:VState) (d:VDepositData) (f:Nat→Int) (n:Nat):VState :=
 if dpO x d < x.f11.n then balS x (dpO x d) (w64 (x.f12.z (dpO x d)+d.f2))
 else if gdB (dpQ d) f n=true then enS x d else x
theorem tkK_sim {x X:VState} (h:SimF x X) (d:VDepositData):tkK X d=tkK x d:=by unfold tkK dpO;rw [h.l11,h.z11]
theorem tkE_sim {x X:VState} (h:SimF x X) (d:VDepositData) (f:Nat→Int) (n:Nat):tkE X d f n=tkE x d f n:=by unfold tkE dpO;rw [h.l11,h.z11]
theorem ok_up {x:VState} (h:OkState x):OkState (upS x):=⟨h.o0,h.o1,h.o2,h.o3,h.o4,h.o5,h.o6,h.o7,h.o8,h.o9,w64_bd _,h.o11,h.o12,h.o13,h.o14,h.o15,h.o16,h.o18,h.o19,h.o20,h.o21,h.o22,h.o23⟩
theorem ok_blJ {x:VState} (h:OkState x) (i:Nat) {n:Int} (hn:0≤n∧n < 18446744073709551616):OkState (balS x i n):=⟨h.o0,h.o1,h.o2,h.o3,h.o4,h.o5,h.o6,h.o7,h.o8,h.o9,h.o10,h.o11,fun j hj=>by
 show 0≤(if j=i then n else x.f12.z j)∧(if j=i then n else x.f12.z j) < _
 split
 ·exact hn
 ·exact h.o12 j hj,h.o13,h.o14,h.o15,h.o16,h.o18,h.o19,h.o20,h.o21,h.o22,h.o23⟩
theorem ok_nv {d:VDepositData} (h:OkDepositData d):OkValidator (nvV d):=by
 have:=efV_bd h.2.2.1.1
 refine ⟨h.1,h.2.1,⟨this.1,?_⟩,trivial,?_,?_,?_,?_⟩
 ·show efV d.f2 < _
  omega
 all_goals
  show 0≤far∧far < _
  unfold far
  omega
theorem vn_all {α:Type} {p:α→Prop} {z:Nat→α} {n:Nat} {v:α} (h:∀ j,j < n→p (z j)) (hv:p v) (j:Nat) (hj:j < n+1):p (vnZ z n v j):=by
 unfold vnZ
 split
 ·exact h j ‹_›
 ·exact hv
theorem ok_m11 {x:VState} (h:OkState x) (a:Option Addr) (c:Nat) {v:VValidator} (hv:OkValidator v):OkState (mr11 x a c v):=⟨h.o0,h.o1,h.o2,h.o3,h.o4,h.o5,h.o6,h.o7,h.o8,h.o9,h.o10,vn_all h.o11 hv,h.o12,h.o13,h.o14,h.o15,h.o16,h.o18,h.o19,h.o20,h.o21,h.o22,h.o23⟩
theorem ok_m12 {x:VState} (h:OkState x) (a:Option Addr) (c:Nat) {v:Int} (hv:0≤v∧v < 18446744073709551616):OkState (mr12 x a c v):=⟨h.o0,h.o1,h.o2,h.o3,h.o4,h.o5,h.o6,h.o7,h.o8,h.o9,h.o10,h.o11,vn_all (p:=fun n=>0≤n∧n < 18446744073709551616) h.o12 hv,h.o13,h.o14,h.o15,h.o16,h.o18,h.o19,h.o20,h.o21,h.o22,h.o23⟩
theorem ok_m15 {x:VState} (h:OkState x) (a:Option Addr) (c:Nat) {v:Int} (hv:0≤v∧v < 256):OkState (mr15 x a c v):=⟨h.o0,h.o1,h.o2,h.o3,h.o4,h.o5,h.o6,h.o7,h.o8,h.o9,h.o10,h.o11,h.o12,h.o13,h.o14,vn_all (p:=fun n=>0≤n∧n < 256) h.o15 hv,h.o16,h.o18,h.o19,h.o20,h.o21,h.o22,h.o23⟩
theorem ok_m16 {x:VState} (h:OkState x) (a:Option Addr) (c:Nat) {v:Int} (hv:0≤v∧v < 256):OkState (mr16 x a c v):=⟨h.o0,h.o1,h.o2,h.o3,h.o4,h.o5,h.o6,h.o7,h.o8,h.o9,h.o10,h.o11,h.o12,h.o13,h.o14,h.o15,vn_all (p:=fun n=>0≤n∧n < 256) h.o16 hv,h.o18,h.o19,h.o20,h.o21,h.o22,h.o23⟩
theorem ok_m21 {x:VState} (h:OkState x) (a:Option Addr) (c:Nat) {v:Int} (hv:0≤v∧v < 18446744073709551616):OkState (mr21 x a c v):=⟨h.o0,h.o1,h.o2,h.o3,h.o4,h.o5,h.o6,h.o7,h.o8,h.o9,h.o10,h.o11,h.o12,h.o13,h.o14,h.o15,h.o16,h.o18,h.o19,h.o20,vn_all (p:=fun n=>0≤n∧n < 18446744073709551616) h.o21 hv,h.o22,h.o23⟩
theorem ok_en {x:VState} (h:OkState x) {d:VDepositData} (hd:OkDepositData d):OkState (enS x d) :=
 ok_m21 (ok_m16 (ok_m15 (ok_m12 (ok_m11 h _ _ (ok_nv hd)) _ _ hd.2.2.1) _ _ (by omega)) _ _ (by omega)) _ _ (by omega)
theorem tk_ok {x:VState} (h:OkState x) {d:VDepositData} (hd:OkDepositData d) (f:Nat→Int) (n:Nat):OkState (tkS x d f n):=by
 unfold tkS
 split
 ·exact ok_blJ h _ (w64_bd _)
 ·split
  ·exact ok_en h hd
  ·exact h
theorem tk_lns {x:VState} (h:rightB x=true) (d:VDepositData) (f:Nat→Int) (n:Nat):Lns (tkS (upS x) d f n):=by
 have hs:=right_small h
 unfold tkS Lns
 split
 ·exact ⟨by show x.f11.n≤_;omega,by show x.f21.n≤_;omega,by show x.f12.n≤_;omega⟩
 ·split
  ·exact ⟨by show x.f11.n+1≤_;omega,by show x.f21.n+1≤_;omega,by show x.f12.n+1≤_;omega⟩
  ·exact ⟨by show x.f11.n≤_;omega,by show x.f21.n≤_;omega,by show x.f12.n≤_;omega⟩
def jdP (x:VState) (d:VDeposit):Int:=if rightB x=true then (if holdsV (hDepositData d.f1) d.f0.f0 7 x.f10.toNat x.f8.f0=true then 0 else 34) else 1
def jdK (x:VState) (d:VDeposit):Nat:=if jdP x d=0 then tkK x d.f1 else 0
def jdE (x:VState) (d:VDeposit) (f:Nat→Int) (n:Nat):Int:=if jdP x d=0 then (if tkE x d.f1 f n=0 then (if rightB (tkS (upS x) d.f1 f n)=true then 0 else 2) else tkE x d.f1 f n) else jdP x d
def jdS (x:VState) (d:VDeposit) (f:Nat→Int) (n:Nat):VState:=if jdE x d f n=0 then tkS (upS x) d.f1 f n else oState
def exC (x:VState) (e:VExit):Int :=
 if e.f1 < (x.f11.n:Int) then
  if actB (x.f11.z e.f1.toNat) (x.f2 / 4)=true then
   if (x.f11.z e.f1.toNat).f6=far then
    if e.f0≤x.f2 / 4 then
     if (x.f11.z e.f1.toNat).f5+2≤x.f2 / 4 then 0 else 31
    else 29
   else 36
  else 27
 else 27
def exP (x:VState) (e:VExit):Int:=if rightB x=true then exC x e else 1
def exQ (x:VState) (s:VSignedExit):Nat→Int:=qsV (x.f11.z s.f0.f1.toNat).f0 1 (tw (hExit s.f0) (domV x 4 s.f0.f0)) s.f1
def exK (x:VState) (s:VSignedExit):Nat:=if exP x s.f0=0 then 1 else 0
def exE (x:VState) (s:VSignedExit) (f:Nat→Int) (n:Nat):Int:=if exP x s.f0=0 then (if gdB (exQ x s) f n=true then lqE x s.f0.f1 else 25) else exP x s.f0
def exS (x:VState) (s:VSignedExit) (f:Nat→Int) (n:Nat):VState:=if exE x s f n=0 then lqS x s.f0.f1 else oState
theorem exC_cases (x:VState) (e:VExit) (h0:0≤e.f1):exC x e=0→∃ k:Nat,e.f1=(k:Int)∧k < x.f11.n∧actB (x.f11.z k) (x.f2 / 4)=true∧(x.f11.z k).f6=far:=by
 unfold exC
 intro h
 by_cases h1:e.f1 < (x.f11.n:Int)
 ·rw [if_pos h1] at h
  by_cases h2:actB (x.f11.z e.f1.toNat) (x.f2 / 4)=true
  ·rw [if_pos h2] at h
   by_cases h3:(x.f11.z e.f1.toNat).f6=far
   ·exact ⟨e.f1.toNat,by omega,by omega,h2,h3⟩
   ·rw [if_neg h3] at h;omega
  ·rw [if_neg h2] at h;omega
 ·rw [if_neg h1] at h;omega
def JdA (x:VState) (d:VDeposit) (f:Nat→Int) (n:Nat) (w:World) (e':Ending) (w':World):Prop :=
 ∃ X a c,e'=.returned (.tuple #[.agg (cel (sState X)),.slice a (jdK x d) c,.int .i64 (jdE x d f n)])∧Res w.heap.size w' (jdS x d f n) X∧Rts w' a (jdK x d) c (dpQ d.f1)∧NwL w.heap.size a (jdK x d)∧Below w.heap.size w w'
def ExA (x:VState) (s:VSignedExit) (f:Nat→Int) (n:Nat) (w:World) (e':Ending) (w':World):Prop :=
 ∃ X a c,e'=.returned (.tuple #[.agg (cel (sState X)),.slice a (exK x s) c,.int .i64 (exE x s f n)])∧Res w.heap.size w' (exS x s f n) X∧Rts w' a (exK x s) c (exQ x s)∧NwL w.heap.size a (exK x s)∧Below w.heap.size w w'
end
section
open Go.RowKit
set_option linter.unusedVariables false
set_option linter.unusedSimpArgs false
set_option maxRecDepth 20000
attribute [local go_sem ↓] lvState_eq svState_eq bdState_eq lvValidator_eq svValidator_eq ixValidator_eq bvV_eq bsV_eq ixU_eq
def ixBo (x i:Value):Sem Value:=Instr.indexAt 51 x i
theorem ixBo_eq (x i:Value):Instr.indexAt 51 x i=ixBo x i:=rfl
theorem ixBo_run (w:World) (b off len cap i:Nat) (h:i < len):(ixBo (.slice (some ⟨b,off,none⟩) len cap) (.int .i64 i)).run Tryz.prog w=.ok (.pointer (some ⟨b,off+i,none⟩)) w:=by
 obtain ⟨ii,hi,_,hs,_⟩:=info_out (P:=Tryz.prog) (t:=4) (z:=.bool false) (s:=1) (b:=1) (by kernel_rfl)
 have hz:(sizeOf 4).run Tryz.prog w=.ok 1 w:=by simp [sizeOf,typeInfo,hi,hs]
 unfold ixBo Instr.indexAt
 have h1:(0:Int)≤(i:Int)∧(i:Int) < (len:Int):=by omega
 simp only [asIntOf,Sem.run_bind,Sem.run_pure,Result.andThen_ok,run_underlying Tryz.underlying51,if_pos h1,hz,Addr.add_mid,Int.toNat_natCast,Nat.mul_one]
attribute [local go_sem ↓] ixBo_eq
end
end Go.Proofs.YtfgmddnfhphdeaaGreatDoor
