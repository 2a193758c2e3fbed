/- A part. -/
import Derived.Test.YtdjplhibmomajaaGreatDoorQU
import Derived.Test.YtdjplhibmomajaaGreatDoorQJ
import Derived.Test.YtdjplhibmomajaaGreatDoorQN
import Derived.Test.YtdjplhibmomajaaGreatDoorQD
namespace Go.Proofs.YtdjplhibmomajaaGreatDoor
open Go.RowKit
set_option linter.unusedVariables false
set_option linter.unusedSimpArgs false
section
open Go.RowKit
set_option linter.unusedVariables false
set_option linter.unusedSimpArgs false
set_option maxRecDepth 20000
def aFk (X:aA1) (f:Nat→Int) (p:Nat):Nat→aA1
 | 0 => X
 | k + 1 => aEw (aFk X f p k) (f k).toNat p
theorem aFg {X:aA1} {f:Nat→Int} {p:Nat} (h:Rg X):∀ k,(∀ j,j < k→(f j).toNat < X.f11.n)→Rg (aFk X f p k)∧(aFk X f p k).f11.n=X.f11.n
 | 0, _ => ⟨h, rfl⟩
 | k + 1, hf => by
  obtain ⟨a,b⟩:=aFg h k fun j hj=>hf j (by omega)
  refine ⟨a.o _ p (by rw [b];exact hf k (by omega)),?_⟩
  show (aEw (aFk X f p k) (f k).toNat p).f11.n=_
  rw [←b]
  exact (aFr _ _).2.2.1
theorem aIR {x X:aA1} (f:Nat→Int) (p:Nat) (h:aBQ x X):∀ k,aBQ (aFk x f p k) (aFk X f p k)
 | 0 => h
 | k + 1 => aNw _ p (aIR f p h k)
def saE (x:aA1) (f:Nat→Int) (n:Nat):Int:=if prE x=0 then (if aAN (aFk x f (prV x).toNat n)=true then 0 else 2) else prE x
def saS (x:aA1) (f:Nat→Int) (n:Nat):aA1:=if saE x f n=0 then aFk x f (prV x).toNat n else aAn
theorem aIt {X Y:aA1} (h:aBQ X Y) (hl:Lns X):Lns Y:=by unfold Lns at hl ⊢;rw [h.l11,h.l21,h.l12];exact hl
theorem aOn {x:aA1} (h:Lns x) (i:Nat):Lns (lvS x i):=by
 unfold lvS
 split<;>exact h
theorem aPv {x:aA1} (h:Lns x) (i p:Nat):Lns (aEw x i p):=aOn h i
theorem aIu {x:aA1} (h:Lns x) (f:Nat→Int) (p:Nat):∀ k,Lns (aFk x f p k)
 | 0 => h
 | k + 1 => aPv (aIu h f p k) _ p
attribute [local go_sem ↓] aAq aAr aAz aF1
set_option maxHeartbeats 4000000 in
theorem aEZ (x : aA1) (w : World) (hx : aAD x) (hw : InW w x) (hl : Lns x) :
    Calls Tryz.prog 34 #[.agg (cel (aA0 x))] w fun e' w'=>e'=.returned (.tuple #[.agg (cel (aA0 (dnS x 0))),.int .i64 (dnE x 0)])∧Below w.heap.size w w':=by
 obtain ⟨W0,hW0⟩:∃ W,(w.alloc (.cells (cel (aA0 x)) 49)).alloc (.cells (cel (aA0 aAn)) 49)=W:=⟨_,rfl⟩
 have r0:W0.heap[w.heap.size]?=some (.cells (cel (aA0 x)) 49):=by rw [←hW0];exact (aAc (by simp)).trans (aA2 rfl)
 have r1:W0.heap[w.heap.size+1]?=some (.cells (cel (aA0 aAn)) 49):=by rw [←hW0];exact aA2 (by simp)
 have hB0:Up w W0:=by rw [←hW0];exact ((Below.refl _ _).alloc (Nat.le_refl _) _).alloc (by simp) _
 have hri:=aEc x W0 hx.r' (hw.below hB0).r' hl
 have lx:=aAg r0
 have z:=aBg
 have bz:=aCI
 have HB:=hid hB0
 have HW:=hid hW0
 have R0:=hid r0
 have R1:=hid r1
 have HRI:=hid hri
 clear hri hB0 hW0 r0 r1 hx hw
 cases hR:aAN x
 ·rw [hR] at HRI
  have eE:dnE x 0=2:=by unfold dnE;rw [hR];rfl
  have eS:dnS x 0=aAn:=by unfold dnS;rw [eE];rfl
  rw [eE,eS]
  clear eE eS hR R0
  go_enter Tryz.func34,Tryz.ntmps34
  go_upto_region 1 with fail
  rw [HW.out]
  clear HW z
  go_wp2_with (go_at_call 12;refine HRI.out.mono ?_;rintro e' w1 ⟨rfl,hb1⟩;have s1:=aAA (upR hb1 R1.out) aAn)
  exact aC5 2 3 (w.heap.size+1) aAn 49 (.int .i64 2) rfl rfl rfl rfl (aA4 (upR hb1 R1.out)) ⟨rfl,aA6 (upT HB.out hb1) (by omega) _⟩
 ·rw [hR] at HRI
  have eE:dnE x 0=0:=by unfold dnE;rw [hR];rfl
  have eS:dnS x 0=x:=by unfold dnS;rw [eE];rfl
  rw [eE,eS]
  clear eE eS hR
  go_enter Tryz.func34,Tryz.ntmps34
  go_upto_region 1 with fail
  rw [HW.out]
  clear HW z
  go_wp2_with (go_at_call 12;refine HRI.out.mono ?_;rintro e' w1 ⟨rfl,hb1⟩;have lx1:=aAg (upR hb1 R0.out);have s1:=aAA (upR hb1 R1.out) x)
  exact aC5 2 3 (w.heap.size+1) x 49 (.int .i64 0) rfl rfl rfl rfl (aA4 (upR hb1 R1.out)) ⟨rfl,aA6 (upT HB.out hb1) (by omega) _⟩
set_option maxHeartbeats 8000000 in
theorem aEG (x : aA1) (a : Option Addr) (n c : Nat) (f : Nat → Int) (w : World) (hx : aAD x) (hw : InW w x) (hn : aGw x) (hR : aAN x = true) (hf : Z.Nms .u64 w a n f) (hfb : ∀ j, j < n → 0 ≤ f j ∧ f j < (x.f11.n : Int)) (hnn : n ≤ 9223372036854775807) (hS : Sh w) :
    Calls Tryz.prog 19 #[.agg (cel (aA0 x)),.slice a n c] w fun e' w'=>∃ X,e'=.returned (.tuple #[.agg (cel (aA0 X)),.int .i64 (saE x f n)])∧Res w.heap.size w' (saS x f n) X∧Below w.heap.size w w':=by
 obtain ⟨W0,hW0⟩:∃ W,(w.alloc (.cells (cel (aA0 x)) 49)).alloc (.cells (cel (aA0 aAn)) 49)=W:=⟨_,rfl⟩
 have r0:W0.heap[w.heap.size]?=some (.cells (cel (aA0 x)) 49):=by rw [←hW0];exact (aAc (by simp)).trans (aA2 rfl)
 have r1:W0.heap[w.heap.size+1]?=some (.cells (cel (aA0 aAn)) 49):=by rw [←hW0];exact aA2 (by simp)
 have hB0:Up w W0:=by rw [←hW0];exact ((Below.refl _ _).alloc (Nat.le_refl _) _).alloc (by simp) _
 have hrg:=(aAS hR).rg hx
 have hpr:=aKY x W0 hx (hrg.lk (hw.below hB0)) (hS.below hB0)
 have lx:=aAg r0
 have z:=aBg
 have bz:=aCI
 have HB:=hid hB0
 have HW:=hid hW0
 have R0:=hid r0
 have R1:=hid r1
 have hqS:saS x f n=if saE x f n=0 then aFk x f (prV x).toNat n else aAn:=rfl
 have hqE:saE x f n=if prE x=0 then (if aAN (aFk x f (prV x).toNat n)=true then 0 else 2) else prE x:=rfl
 have hin:=aPL (X:=x)
 obtain ⟨PE,ePE⟩:∃ e,prE x=e:=⟨_,rfl⟩
 obtain ⟨PV,ePV⟩:∃ e,prV x=e:=⟨_,rfl⟩
 rw [ePE] at hqE hin
 rw [ePV] at hqE hqS hin
 rw [ePE,ePV] at hpr
 have HPR:=hid hpr
 clear ePE ePV hpr hS
 by_cases hp:PE=0
 ·subst hp
  rw [if_pos rfl] at hqE
  obtain ⟨p,rfl,hpn⟩:=hin rfl
  rw [show ((p:Int)).toNat=p from rfl] at hqE hqS
  obtain ⟨QE,eQ⟩:∃ d,saE x f n=d:=⟨_,rfl⟩
  rw [eQ] at hqE hqS
  rw [eQ]
  have hcp:∀ W:World,Up W0 W→Calls Tryz.prog 32 #[.agg (cel (aA0 x))] W fun e w'=>∃ X:aA1,e=.returned (.agg (cel (aA0 X)))∧aBQ x X∧aEJ W.heap.size w' X∧Below W.heap.size W w':=fun W h=>aGD x W (hw.below (upT hB0 h)) hn (aEh hR)
  have HCP:=hid hcp
  have HQE:=hid hqE
  have HQS:=hid hqS
  have HRT:=hid hR
  have HRG:=hid hrg
  have HPN:=hid hpn
  have HF:=hid hf
  have HFB:=hid hfb
  clear hB0 hW0 r0 r1 hx hw hn hR hf hfb hcp hqE hqS hin hrg hpn eQ
  go_enter Tryz.func19,Tryz.ntmps19
  go_upto_region 1 with fail
  rw [HW.out]
  clear HW
  go_upto_region 2 with (go_at_call 46;refine HPR.out.mono ?_;rintro e' w1 ⟨rfl,hb1⟩)
  have lx1:=aAg (upR hb1 R0.out)
  have HCQ:=hid (HCP.out w1 hb1)
  have HU1:=hid (upT HB.out hb1)
  have Q0:=hid (upR hb1 R0.out)
  have Q1:=hid (upR hb1 R1.out)
  have hl1:=aAe Q1.out
  clear HCP HPR R0 R1 hb1 lx
  go_upto_region 5 with (go_at_call 32;refine HCQ.out.mono ?_;rintro e' w2 ⟨X,rfl,hsim,hcd,hb2⟩;have sv:=aAA (upR hb2 Q0.out) X;have HSM:=hid hsim;have HCD:=hid hcd;have HB2:=hid hb2;clear hsim hcd hb2)
  obtain ⟨hbf,hcc⟩:=BF.own (Nat.le_refl w.heap.size) HU1.out HB2.out (upR HB2.out Q0.out) HCD.out (by rw [aAT,aAT];rfl)
  have hbk:BK w1 w.heap.size (w2.setRow w.heap.size (cel (aA0 X))) X:=⟨(Kept.ofBelow HB2.out).setRow _,hbf.row,hcc⟩
  obtain ⟨V0,hV⟩:∃ V,w2.setRow w.heap.size (cel (aA0 X))=V:=⟨_,rfl⟩
  rw [hV] at hbk ⊢
  clear hV hbf hcc sv HCD HB2 HCQ
  have hrX:=HRG.out.sim HSM.out
  have hkX:∀ j,j < n→(f j).toNat < X.f11.n:=fun j hj=>by have:=HFB.out j hj;rw [HSM.out.l11];omega
  have hso:=fun (k:Nat) (hk:k≤n) (V:World) (h:BK w1 w.heap.size V (aFk X f p k)) (hkn:k < n)=>aHf (aFk X f p k) (f k).toNat p w.heap.size w1 V h (aFg hrX k fun j hj=>hkX j (by omega)).1 (by rw [(aFg hrX k fun j hj=>hkX j (by omega)).2];exact hkX k hkn) (by rw [(aFg hrX k fun j hj=>hkX j (by omega)).2,HSM.out.l11];exact HPN.out)
  have HSO:=hid hso
  have HRX:=hid hrX
  have HKX:=hid hkX
  have HBK:=hid hbk
  clear hso hrX hkX hbk lx1 HRG z
  go_wp2
  go_loopw [23] (fun c wr=>∃ k:Nat,k≤n∧c=.int .i64 k∧BK w1 w.heap.size wr (aFk X f p k)) (fun c _=>n - (intOf c).toNat)
  case atStart=>exact ⟨0,by omega,rfl,HBK.out⟩
  case round =>
   obtain ⟨k,hk,rfl,hbk⟩:=hrel
   by_cases hkn:k < n
   ·have k1:(k:Int) < (n:Int):=by omega
    have kw:IntKind.i64.wrap ((k:Int)+1)=(k:Int)+1:=by rw [IntKind.wrap_i64];omega
    rcases HF.out with h0 | ⟨b,off,ea,hbl,hc⟩
    ·omega
    subst ea
    have ck:wr.cell? ⟨b,off+k,none⟩=some (.int .u64 (f k)):=(hbk.kep.cell (Nat.lt_of_lt_of_le hbl HU1.out.size) (by omega)).trans ((aAk HU1.out hbl).trans (hc k hkn))
    have ix:=fun W=>aFY W b off n c k hkn
    obtain ⟨m,em⟩:∃ m:Nat,f k=(m:Int):=⟨(f k).toNat,by have:=(HFB.out k hkn).1;omega⟩
    have hs1:=HSO.out k hk wr hbk hkn
    have hst:aFk X f p (k+1)=aEw (aFk X f p k) m p:=by show aEw (aFk X f p k) (f k).toNat p=_;rw [em];rfl
    rw [em] at ck hs1
    rw [show ((m:Int)).toNat=m from rfl,←hst] at hs1
    have HS1:=hid hs1
    clear hs1 hst hbk hc hbl em
    go_wp2_with (go_at_call 47;refine HS1.out.mono ?_;rintro e' w3 ⟨rfl,hb3⟩;have HB3:=hid hb3;clear hb3)
    go_roundw
    case rel=>exact ⟨k+1,by omega,by go_num,HB3.out⟩
    case measure=>simp [intOf];omega
   ·obtain rfl:k=n:=by omega
    have kN:¬ (k:Int) < (k:Int):=by omega
    obtain ⟨w3,ew3⟩:∃ V,wr=V:=⟨_,rfl⟩
    rw [ew3] at hbk ⊢
    have hb3:=hbk
    clear ew3 hbk HSO HBK
    have ly:=aAg hb3.row
    have hRP:Rg (aFk X f p k):=(aFg HRX.out k HKX.out).1
    have r13:=hb3.old Q1.out (by omega)
    obtain ⟨P,eP⟩:∃ q9,(aFk X f p k)=q9:=⟨_,rfl⟩
    have hrz:aBQ (aFk x f p k) P:=by rw [←eP];exact aIR f p HSM.out k
    rw [eP] at hb3 ly hRP
    have hlnP:aAN x=true→Lns P:=fun _=>aIt hrz (aIu (aFc HRT.out) f p k)
    have hir:=aEZ P w3 hRP.ok hb3.inW (hlnP HRT.out)
    have hfE:dnE P 0=QE:=by rw [HQE.out];show (if aAN P=true then (0:Int) else 2)=_;rw [aFB hrz]
    have hfS:∀ V b,V.heap[b]?=some (.cells (cel (aA0 aAn)) 49)→Below w3.heap.size w3 V→Res w.heap.size (V.setRow b (cel (aA0 (dnS P 0)))) (saS x f k) (dnS P 0):=fun V b r h=>by
     rw [HQS.out,←hfE]
     unfold dnS
     by_cases hz:dnE P 0=0
     ·rw [if_pos hz,if_pos hz]
      exact ((hb3.below h).give r _).to HU1.out.size hrz
     ·rw [if_neg hz,if_neg hz]
      exact aMl _ _
    rw [hfE] at hir
    obtain ⟨D,eD⟩:∃ d,dnS P 0=d:=⟨_,rfl⟩
    rw [eD] at hir
    simp only [eD] at hfS
    have HDN:=hid hir
    have HFS:=hid hfS
    have R13:=hid r13
    have HU3:=hid ((HU1.out).trans (hb3.kep.below (B:=w.heap.size) (by omega) HU1.out.size))
    clear hir hfS r13 hb3 hfE hrz hlnP hRP HQE HQS HSM eP eD 
    go_wp2_with (go_at_call 34;refine HDN.out.mono ?_;rintro e' w4 ⟨rfl,hb4⟩;have s1:=aAA (upR hb4 R13.out) D)
    exact aC5 4 5 (w.heap.size+1) D 49 (.int .i64 QE) rfl rfl rfl rfl (aA4 (upR hb4 R13.out)) ⟨D,rfl,HFS.out w4 _ (upR hb4 R13.out) hb4,aA6 (upT HU3.out hb4) (by omega) _⟩
 ·have hp2:(PE != 0)=true:=by simp [hp]
  rw [if_neg hp] at hqE
  have eS:saS x f n=aAn:=by rw [hqS,hqE,if_neg hp]
  rw [eS,hqE]
  clear hB0 hW0 r0 r1 hx hw hn hR hf hfb hqE hqS hin eS hrg
  go_enter Tryz.func19,Tryz.ntmps19
  go_upto_region 1 with fail
  rw [HW.out]
  clear HW z
  go_wp2_with (go_at_call 46;refine HPR.out.mono ?_;rintro e' w1 ⟨rfl,hu⟩;have s1:=aAA (upR hu R1.out) aAn)
  exact aC5 4 5 (w.heap.size+1) aAn 49 (.int .i64 PE) rfl rfl rfl rfl (aA4 (upR hu R1.out)) ⟨aAn,rfl,aMl _ _,aA6 (upT HB.out hu) (by omega) _⟩
set_option maxHeartbeats 8000000 in
theorem aJc (x : aA1) (i : Int) (w : World) (hx : aAD x) (hw : InW w x) (hn : aGw x) (hl : Lns x) (h0 : 0 ≤ i) :
    Calls Tryz.prog 11 #[.agg (cel (aA0 x)),.int .u64 i] w fun e' w'=>∃ X,e'=.returned (.tuple #[.agg (cel (aA0 X)),.int .i64 (lqE x i)])∧Res w.heap.size w' (lqS x i) X∧Below w.heap.size w w':=by
 obtain ⟨W0,hW0⟩:∃ W,(w.alloc (.cells (cel (aA0 x)) 49)).alloc (.cells (cel (aA0 aAn)) 49)=W:=⟨_,rfl⟩
 have r0:W0.heap[w.heap.size]?=some (.cells (cel (aA0 x)) 49):=by rw [←hW0];exact (aAc (by simp)).trans (aA2 rfl)
 have r1:W0.heap[w.heap.size+1]?=some (.cells (cel (aA0 aAn)) 49):=by rw [←hW0];exact aA2 (by simp)
 have hB0:Up w W0:=by rw [←hW0];exact ((Below.refl _ _).alloc (Nat.le_refl _) _).alloc (by simp) _
 have hri:=aEc x W0 hx.r' (hw.below hB0).r' hl
 have lx:=aAg r0
 have z:=aBg
 have bz:=aCI
 have HB:=hid hB0
 have HW:=hid hW0
 have R0:=hid r0
 have R1:=hid r1
 cases hR:aAN x
 ·rw [hR] at hri
  have HRI:=hid hri
  have eE:lqE x i=1:=by unfold lqE;rw [hR,if_neg (fun h=>by cases h.1)]
  have eS:lqS x i=aAn:=by unfold lqS;rw [eE];rfl
  rw [eE,eS]
  clear hri hB0 hW0 r0 r1 hx hw hn eE eS
  go_enter Tryz.func11,Tryz.ntmps11
  go_upto_region 1 with fail
  rw [HW.out]
  clear HW z
  go_wp2_with (go_at_call 12;refine HRI.out.mono ?_;rintro e' w1 ⟨rfl,hu⟩;have s1:=aAA (upR hu R1.out) aAn)
  exact aC5 4 5 (w.heap.size+1) aAn 49 (.int .i64 1) rfl rfl rfl rfl (aA4 (upR hu R1.out)) ⟨aAn,rfl,aMl _ _,aA6 (upT HB.out hu) (by omega) _⟩
 ·rw [hR] at hri
  have HRI:=hid hri
  have hsm:=aDf hR
  have hth:=fun W=>aEy x i W hsm.2.2.1
  by_cases hi:i < (x.f11.n:Int)
  ·obtain ⟨k,rfl⟩:∃ k:Nat,i=(k:Int):=⟨i.toNat,by omega⟩
   have hkn:k < x.f11.n:=by omega
   rw [decide_eq_true hi] at hth
   have HTH:=hid hth
   have hrg:=(aAS hR).rg hx
   have hqE:lqE x (k:Int)=if aAN (lvS x k)=true then 0 else 2:=by unfold lqE;rw [hR,if_pos ⟨rfl,hi⟩];rfl
   have hqS:lqS x (k:Int)=if lqE x (k:Int)=0 then lvS x k else aAn:=rfl
   obtain ⟨QE,eQ⟩:∃ d,lqE x (k:Int)=d:=⟨_,rfl⟩
   rw [eQ] at hqE hqS
   rw [eQ]
   have hcp:∀ W:World,Up W0 W→Calls Tryz.prog 32 #[.agg (cel (aA0 x))] W fun e w'=>∃ X:aA1,e=.returned (.agg (cel (aA0 X)))∧aBQ x X∧aEJ W.heap.size w' X∧Below W.heap.size W w':=fun W h=>aGD x W (hw.below (upT hB0 h)) hn (aEh hR)
   have HCP:=hid hcp
   have HQE:=hid hqE
   have HQS:=hid hqS
   have HRT:=hid hR
   have HRG:=hid hrg
   have HKN:=hid hkn
   clear hri hB0 hW0 r0 r1 hx hw hn hR hcp hqE hqS hrg hsm hth hkn hi eQ
   go_enter Tryz.func11,Tryz.ntmps11
   go_upto_region 1 with fail
   rw [HW.out]
   clear HW z
   go_upto_region 3 with (first | (go_at_call 12;refine HRI.out.mono ?_;rintro e' w1a ⟨rfl,hb1⟩;have lx1:=aAg (upR hb1 R0.out);have HB1:=hid hb1;clear hb1) | (go_at_call 14;refine (HTH.out _).mono ?_;rintro e' w1 ⟨rfl,hb1b⟩))
   have hb1:=upT HB1.out hb1b
   replace lx1:=aAg (upR hb1 R0.out)
   have HCQ:=hid (HCP.out w1 hb1)
   have HU1:=hid (upT HB.out hb1)
   have Q0:=hid (upR hb1 R0.out)
   have Q1:=hid (upR hb1 R1.out)
   have hl1:=aAe Q1.out
   clear HCP HRI HTH R0 R1 hb1 hb1b HB1 lx
   go_upto_region 4 with (go_at_call 32;refine HCQ.out.mono ?_;rintro e' w2 ⟨X,rfl,hsim,hcd,hb2⟩;have sv:=aAA (upR hb2 Q0.out) X;have HSM:=hid hsim;have HCD:=hid hcd;have HB2:=hid hb2;clear hsim hcd hb2)
   obtain ⟨hbf,hcc⟩:=BF.own (Nat.le_refl w.heap.size) HU1.out HB2.out (upR HB2.out Q0.out) HCD.out (by rw [aAT,aAT];rfl)
   have hbk:BK w1 w.heap.size (w2.setRow w.heap.size (cel (aA0 X))) X:=⟨(Kept.ofBelow HB2.out).setRow _,hbf.row,hcc⟩
   obtain ⟨V0,hV⟩:∃ V,w2.setRow w.heap.size (cel (aA0 X))=V:=⟨_,rfl⟩
   rw [hV] at hbk ⊢
   clear hV hbf hcc sv HCD HB2 HCQ
   have hrX:=HRG.out.sim HSM.out
   have hkX:k < X.f11.n:=by rw [HSM.out.l11];exact HKN.out
   have hll:=aEB X k w.heap.size w1 V0 hbk hrX hkX
   have HLL:=hid hll
   have HRX:=hid hrX
   clear hll hbk hrX hkX lx1 HRG
   go_upto_region 5 with (go_at_call 33;refine HLL.out.mono ?_;rintro e' w3 ⟨rfl,hb3⟩)
   have ly:=aAg hb3.row
   have hRP:Rg (lvS X k):=HRX.out.lv k
   have r13:=hb3.old Q1.out (by omega)
   obtain ⟨P,eP⟩:∃ q9,(lvS X k)=q9:=⟨_,rfl⟩
   have hrz:aBQ (lvS x k) P:=by rw [←eP];exact aPA k HSM.out
   rw [eP] at hb3 ly hRP
   have hlnP:aAN x=true→Lns P:=fun _=>aIt hrz (aOn (aFc HRT.out) k)
   have hir:=aEZ P w3 hRP.ok hb3.inW (hlnP HRT.out)
   have hfE:dnE P 0=QE:=by rw [HQE.out];show (if aAN P=true then (0:Int) else 2)=_;rw [aFB hrz]
   have hfS:∀ V b,V.heap[b]?=some (.cells (cel (aA0 aAn)) 49)→Below w3.heap.size w3 V→Res w.heap.size (V.setRow b (cel (aA0 (dnS P 0)))) (lqS x (k:Int)) (dnS P 0):=fun V b r h=>by
    rw [HQS.out,←hfE]
    unfold dnS
    by_cases hz:dnE P 0=0
    ·rw [if_pos hz,if_pos hz]
     exact ((hb3.below h).give r _).to HU1.out.size hrz
    ·rw [if_neg hz,if_neg hz]
     exact aMl _ _
   rw [hfE] at hir
   obtain ⟨D,eD⟩:∃ d,dnS P 0=d:=⟨_,rfl⟩
   rw [eD] at hir
   simp only [eD] at hfS
   have HDN:=hid hir
   have HFS:=hid hfS
   have R13:=hid r13
   have HU3:=hid ((HU1.out).trans (hb3.kep.below (B:=w.heap.size) (by omega) HU1.out.size))
   clear hir hfS r13 hb3 hfE hrz hlnP hRP HQE HQS HSM eP eD HLL
   go_wp2_with (go_at_call 34;refine HDN.out.mono ?_;rintro e' w4 ⟨rfl,hb4⟩;have s1:=aAA (upR hb4 R13.out) D)
   exact aC5 4 5 (w.heap.size+1) D 49 (.int .i64 QE) rfl rfl rfl rfl (aA4 (upR hb4 R13.out)) ⟨D,rfl,HFS.out w4 _ (upR hb4 R13.out) hb4,aA6 (upT HU3.out hb4) (by omega) _⟩
  ·rw [decide_eq_false hi] at hth
   have HTH:=hid hth
   have eE:lqE x i=1:=by unfold lqE;rw [if_neg (fun h=>hi h.2)]
   have eS:lqS x i=aAn:=by unfold lqS;rw [eE];rfl
   rw [eE,eS]
   clear hri hB0 hW0 r0 r1 hx hw hn eE eS hsm hR hth hi
   go_enter Tryz.func11,Tryz.ntmps11
   go_upto_region 1 with fail
   rw [HW.out]
   clear HW z
   go_wp2_with (first | (go_at_call 12;refine HRI.out.mono ?_;rintro e' w1 ⟨rfl,hb1⟩;have lx1:=aAg (upR hb1 R0.out);have HB1:=hid hb1;clear hb1) | (go_at_call 14;refine (HTH.out _).mono ?_;rintro e' w1b ⟨rfl,hb1b⟩;have hu:=upT HB1.out hb1b;have s1:=aAA (upR hu R1.out) aAn))
   exact aC5 4 5 (w.heap.size+1) aAn 49 (.int .i64 1) rfl rfl rfl rfl (aA4 (upR hu R1.out)) ⟨aAn,rfl,aMl _ _,aA6 (upT HB.out hu) (by omega) _⟩
set_option maxHeartbeats 8000000 in
theorem aJE (x : aA1) (i : Int) (w : World) (hx : aAD x) (hw : InW w x) (hn : aGw x) (hl : Lns x) (h0 : 0 ≤ i) (hS : Sh w) :
    Calls Tryz.prog 10 #[.agg (cel (aA0 x)),.int .u64 i] w fun e' w'=>∃ X,e'=.returned (.tuple #[.agg (cel (aA0 X)),.int .i64 (sqE x i)])∧Res w.heap.size w' (sqS x i) X∧Below w.heap.size w w':=by
 obtain ⟨W0,hW0⟩:∃ W,(w.alloc (.cells (cel (aA0 x)) 49)).alloc (.cells (cel (aA0 aAn)) 49)=W:=⟨_,rfl⟩
 have r0:W0.heap[w.heap.size]?=some (.cells (cel (aA0 x)) 49):=by rw [←hW0];exact (aAc (by simp)).trans (aA2 rfl)
 have r1:W0.heap[w.heap.size+1]?=some (.cells (cel (aA0 aAn)) 49):=by rw [←hW0];exact aA2 (by simp)
 have hB0:Up w W0:=by rw [←hW0];exact ((Below.refl _ _).alloc (Nat.le_refl _) _).alloc (by simp) _
 have hri:=aEc x W0 hx.r' (hw.below hB0).r' hl
 have lx:=aAg r0
 have z:=aBg
 have bz:=aCI
 have HB:=hid hB0
 have HW:=hid hW0
 have R0:=hid r0
 have R1:=hid r1
 cases hR:aAN x
 ·rw [hR] at hri
  have HRI:=hid hri
  have eE:sqE x i=1:=by unfold sqE;rw [hR,if_neg (fun h=>by cases h.1)]
  have eS:sqS x i=aAn:=by unfold sqS;rw [eE];rfl
  rw [eE,eS]
  clear hri hB0 hW0 r0 r1 hx hw hn eE eS
  go_enter Tryz.func10,Tryz.ntmps10
  go_upto_region 1 with fail
  rw [HW.out]
  clear HW z
  go_wp2_with (go_at_call 12;refine HRI.out.mono ?_;rintro e' w1 ⟨rfl,hu⟩;have s1:=aAA (upR hu R1.out) aAn)
  exact aC5 4 5 (w.heap.size+1) aAn 49 (.int .i64 1) rfl rfl rfl rfl (aA4 (upR hu R1.out)) ⟨aAn,rfl,aMl _ _,aA6 (upT HB.out hu) (by omega) _⟩
 ·rw [hR] at hri
  have HRI:=hid hri
  have hsm:=aDf hR
  have hth:=fun W=>aEy x i W hsm.2.2.1
  by_cases hi:i < (x.f11.n:Int)
  ·obtain ⟨k,rfl⟩:∃ k:Nat,i=(k:Int):=⟨i.toNat,by omega⟩
   have hkn:k < x.f11.n:=by omega
   rw [decide_eq_true hi] at hth
   have HTH:=hid hth
   have hrg:=(aAS hR).rg hx
   have e0:aFk x (fun _=>(k:Int)) (prV x).toNat 1=aEw x k (prV x).toNat:=rfl
   have hs:sqE x (k:Int)=if prE x=0 then (if aAN (slS x k)=true then 0 else 2) else prE x:=by unfold sqE;rw [hR,if_pos ⟨rfl,hi⟩];rfl
   have hqE:saE x (fun _=>(k:Int)) 1=sqE x (k:Int):=by
    rw [hs]
    unfold saE
    rw [e0]
    by_cases hp:prE x=0
    ·rw [aHg hx hrg.sl k hp]
    ·rw [if_neg hp,if_neg hp]
   have hqS:saS x (fun _=>(k:Int)) 1=sqS x (k:Int):=by
    unfold saS sqS
    rw [hqE,e0]
    by_cases hz:sqE x (k:Int)=0
    ·have hp:prE x=0:=by
      rw [hs] at hz
      by_cases hp:prE x=0
      ·exact hp
      ·rw [if_neg hp] at hz;exact absurd hz hp
     rw [if_pos hz,if_pos hz]
     exact (aHg hx hrg.sl k hp).symm
    ·rw [if_neg hz,if_neg hz]
   have hsa:∀ (V:World) (g:Nat),Up W0 V→V.heap[g]?=some (.cells #[.int .u64 (k:Int)] 22)→Calls Tryz.prog 19 #[.agg (cel (aA0 x)),.slice (some ⟨g,0,none⟩) 1 1] V fun e' w'=>∃ X,e'=.returned (.tuple #[.agg (cel (aA0 X)),.int .i64 (sqE x (k:Int))])∧Res V.heap.size w' (sqS x (k:Int)) X∧Below V.heap.size V w':=fun V g h r=>by
    have:=aEG x (some ⟨g,0,none⟩) 1 1 (fun _=>(k:Int)) V hx (hw.below (upT hB0 h)) hn hR (.inr ⟨g,0,rfl,aAe r,fun j hj=>(by obtain rfl:j=0:=(by omega);exact (aAs (i:=0) r).trans rfl)⟩) (fun j hj=>by omega) (by omega) (hS.below (upT hB0 h))
    rw [hqE,hqS] at this
    exact this
   have HSA:=hid hsa
   clear hri hB0 hW0 r0 r1 hx hw hn hR hqE hqS hrg hsm hth hkn hi e0 hsa hS hs
   obtain ⟨SE,eSE⟩:∃ e,sqE x (k:Int)=e:=⟨_,rfl⟩
   obtain ⟨SS,eSS⟩:∃ e,sqS x (k:Int)=e:=⟨_,rfl⟩
   rw [eSE,eSS] at HSA
   rw [eSE,eSS]
   clear eSE eSS
   go_enter Tryz.func10,Tryz.ntmps10
   go_upto_region 1 with fail
   rw [HW.out]
   clear HW
   go_upto_region 3 with (first | (go_at_call 12;refine HRI.out.mono ?_;rintro e' w1a ⟨rfl,hb1⟩;have lx1:=aAg (upR hb1 R0.out);have HB1:=hid hb1;clear hb1) | (go_at_call 14;refine (HTH.out _).mono ?_;rintro e' w1 ⟨rfl,hb1b⟩))
   have hb1:=upT HB1.out hb1b
   replace lx1:=aAg (upR hb1 R0.out)
   obtain ⟨W2,g2,hW2,eg2,r2,hd2,_⟩:=aD1 hb1 (.cells #[.int .u64 (k:Int)] 22)
   have hsb:=HSA.out W2 g2 (upT hb1 hd2) r2
   have HSB:=hid hsb
   have HU2:=hid (upT HB.out (upT hb1 hd2))
   have Q1:=hid (upR (upT hb1 hd2) R1.out)
   have HW2:=hid hW2
   have EG2:=hid eg2
   clear hb1 hb1b HB1 HSA hsb r2 hd2 HRI HTH R0 R1 HB lx hW2 eg2
   go_wp2_with (go_at_call 19;rw [HW2.out,EG2.out];refine HSB.out.mono ?_;rintro e' w3 ⟨X,rfl,hrs,hb3⟩;have s1:=aAA (upR hb3 Q1.out) X;have HRS:=hid hrs;have HB3:=hid hb3;clear hrs hb3)
   have R3:=upR HB3.out Q1.out
   exact aC5 4 5 (w.heap.size+1) X 49 (.int .i64 SE) rfl rfl rfl rfl (aA4 R3) ⟨X,rfl,⟨HRS.out.sim,HRS.out.inw.kept (HRS.out.new.aw (aAe Q1.out)) ((Kept.refl _ _).setRow _),HRS.out.nil,HRS.out.new.mono HU2.out.size⟩,aA6 (upT HU2.out HB3.out) (by omega) _⟩
  ·rw [decide_eq_false hi] at hth
   have HTH:=hid hth
   have eE:sqE x i=1:=by unfold sqE;rw [if_neg (fun h=>hi h.2)]
   have eS:sqS x i=aAn:=by unfold sqS;rw [eE];rfl
   rw [eE,eS]
   clear hri hB0 hW0 r0 r1 hx hw hn eE eS hsm hR hth hi
   go_enter Tryz.func10,Tryz.ntmps10
   go_upto_region 1 with fail
   rw [HW.out]
   clear HW z
   go_wp2_with (first | (go_at_call 12;refine HRI.out.mono ?_;rintro e' w1 ⟨rfl,hb1⟩;have lx1:=aAg (upR hb1 R0.out);have HB1:=hid hb1;clear hb1) | (go_at_call 14;refine (HTH.out _).mono ?_;rintro e' w1b ⟨rfl,hb1b⟩;have hu:=upT HB1.out hb1b;have s1:=aAA (upR hu R1.out) aAn))
   exact aC5 4 5 (w.heap.size+1) aAn 49 (.int .i64 1) rfl rfl rfl rfl (aA4 (upR hu R1.out)) ⟨aAn,rfl,aMl _ _,aA6 (upT HB.out hu) (by omega) _⟩
end
section
open Go.RowKit
set_option linter.unusedVariables false
set_option linter.unusedSimpArgs false
set_option maxRecDepth 20000
def aQT:Prop:=∀ (x:aA1) (i:Int) (w:World),aAD x→InW w x→aGw x→Lns x→0≤i→Calls Tryz.prog 11 #[.agg (cel (aA0 x)),.int .u64 i] w fun e' w'=>∃ X,e'=.returned (.tuple #[.agg (cel (aA0 X)),.int .i64 (lqE x i)])∧Res w.heap.size w' (lqS x i) X∧Below w.heap.size w w'
def aQU:Prop:=∀ (x:aA1) (i:Int) (w:World),aAD x→InW w x→aGw x→Lns x→0≤i→Sh w→Calls Tryz.prog 10 #[.agg (cel (aA0 x)),.int .u64 i] w fun e' w'=>∃ X,e'=.returned (.tuple #[.agg (cel (aA0 X)),.int .i64 (sqE x i)])∧Res w.heap.size w' (sqS x i) X∧Below w.heap.size w w'
def XA (g1 g2 g3 g4 g5:Nat):aA1:={ X2 g1 g2 g3 g4 g5 with f12:=⟨some ⟨g2,0,none⟩,1,1,fun _=>32000000000⟩ }
theorem aTh (W:World) (g1 g2 g3 g4 g5:Nat):(aES #[(11,.slice (some ⟨g1,0,none⟩) 1 1),(12,.slice (some ⟨g2,0,none⟩) 1 1),(15,.slice (some ⟨g3,0,none⟩) 1 1),(16,.slice (some ⟨g4,0,none⟩) 1 1),(21,.slice (some ⟨g5,0,none⟩) 1 1)]).run Tryz.prog W=.ok (.agg (cel (aA0 (XA g1 g2 g3 g4 g5)))) W:=aTg W g1 g2 g3 g4 g5
theorem aS4 (g1 g2 g3 g4 g5:Nat):aAD (XA g1 g2 g3 g4 g5) :=
 { aTH g1 g2 g3 g4 g5 with o12:=fun _ _=>by show (0:Int)≤32000000000∧(32000000000:Int) < _;omega }
theorem aTI (g1 g2 g3 g4 g5:Nat):prE (XA g1 g2 g3 g4 g5)=0∧prV (XA g1 g2 g3 g4 g5)=0:=by
 have h0:prE (XA g1 g2 g3 g4 g5)=0:=by
  have hL:acE (XA g1 g2 g3 g4 g5) ((XA g1 g2 g3 g4 g5).f2 / 4)=[0]:=by kernel_rfl
  unfold prE
  rw [hL]
  exact (aPd (by simp) (fun v _=>rfl) (by omega)).1
 refine ⟨h0,?_⟩
 obtain ⟨p,e,hp⟩:=aPL h0
 have:p < 1:=hp
 rw [e]
 omega
theorem aIL (g1 g2 g3 g4 g5:Nat):aAN (XA g1 g2 g3 g4 g5)=true∧aAN (aEw (XA g1 g2 g3 g4 g5) 0 0)=true∧((aEw (XA g1 g2 g3 g4 g5) 0 0).f11.z 0).f6=3∧((aEw (XA g1 g2 g3 g4 g5) 0 0).f11.z 0).f3=true∧(aEw (XA g1 g2 g3 g4 g5) 0 0).f11.n=1 :=
 ⟨by kernel_rfl,by kernel_rfl,by kernel_rfl,by kernel_rfl,by kernel_rfl⟩
theorem aTR (g1 g2 g3 g4 g5:Nat):sqE (XA g1 g2 g3 g4 g5) 0=0∧sqS (XA g1 g2 g3 g4 g5) 0=aEw (XA g1 g2 g3 g4 g5) 0 0∧lqE (XA g1 g2 g3 g4 g5) 1=1:=by
 obtain ⟨r1,r2,_⟩:=aIL g1 g2 g3 g4 g5
 obtain ⟨p1,p2⟩:=aTI g1 g2 g3 g4 g5
 have hs:slS (XA g1 g2 g3 g4 g5) 0=aEw (XA g1 g2 g3 g4 g5) 0 0:=by
  rw [aHg (aS4 ..) (by show (0:Int) < _;omega) 0 p1,p2]
  rfl
 have h1:sqE (XA g1 g2 g3 g4 g5) 0=0:=by
  unfold sqE
  rw [r1,if_pos ⟨rfl,by show (0:Int) < 1;omega⟩,p1,if_pos rfl,show ((0:Int)).toNat=0 from rfl,hs,r2]
  rfl
 refine ⟨h1,?_,?_⟩
 ·unfold sqS
  rw [h1,if_pos rfl,show ((0:Int)).toNat=0 from rfl,hs]
 ·unfold lqE
  rw [if_neg (fun h=>by
   have:(1:Int) < 1:=h.2
   omega)]
attribute [local go_sem ↓] aAq aAr aAz aAi aAl aAw aK2 aK1 aF1
set_option maxHeartbeats 4000000 in
theorem aOV (pL : aQT) (pS : aQU) (w : World) (hS : Sh w) :
    Calls Tryz.prog 4 #[] w fun e' w'=>e'=.returned (.bool true)∧Below w.heap.size w w':=by
 have b1:=aTm
 have b2:=aTk
 obtain ⟨W5,hW5⟩:∃ W,(((((w.alloc (.cells (cel (aA3 oV2)) 65)).alloc (.cells #[.int .u64 32000000000] 22)).alloc (.cells #[.int .u8 0] 5)).alloc (.cells #[.int .u8 0] 5)).alloc (.cells #[.int .u64 0] 22))=W:=⟨_,rfl⟩
 have v1:W5.heap[w.heap.size]?=some (.cells (cel (aA3 oV2)) 65):=by rw [←hW5];exact (aAc (by simp<;>omega)).trans ((aAc (by simp<;>omega)).trans ((aAc (by simp<;>omega)).trans ((aAc (by simp)).trans (aA2 rfl))))
 have v2:W5.heap[w.heap.size+1]?=some (.cells #[.int .u64 32000000000] 22):=by rw [←hW5];exact (aAc (by simp<;>omega)).trans ((aAc (by simp<;>omega)).trans ((aAc (by simp<;>omega)).trans (aA2 (by simp))))
 have v3:W5.heap[w.heap.size+2]?=some (.cells #[.int .u8 0] 5):=by rw [←hW5];exact (aAc (by simp<;>omega)).trans ((aAc (by simp<;>omega)).trans (aA2 (by simp)))
 have v4:W5.heap[w.heap.size+3]?=some (.cells #[.int .u8 0] 5):=by rw [←hW5];exact (aAc (by simp<;>omega)).trans (aA2 (by simp))
 have v5:W5.heap[w.heap.size+4]?=some (.cells #[.int .u64 0] 22):=by rw [←hW5];exact aA2 (by simp)
 have hB5:Up w W5:=by rw [←hW5];go_grown
 obtain ⟨x,ex⟩:∃ x,XA w.heap.size (w.heap.size+1) (w.heap.size+2) (w.heap.size+3) (w.heap.size+4)=x:=⟨_,rfl⟩
 have bd:∀ W:World,(aES #[(11,.slice (some ⟨w.heap.size,0,none⟩) 1 1),(12,.slice (some ⟨w.heap.size+1,0,none⟩) 1 1),(15,.slice (some ⟨w.heap.size+2,0,none⟩) 1 1),(16,.slice (some ⟨w.heap.size+3,0,none⟩) 1 1),(21,.slice (some ⟨w.heap.size+4,0,none⟩) 1 1)]).run Tryz.prog W=.ok (.agg (cel (aA0 x))) W:=fun W=>by rw [←ex];exact aTh W _ _ _ _ _
 have hq:=aTR w.heap.size (w.heap.size+1) (w.heap.size+2) (w.heap.size+3) (w.heap.size+4)
 have hr:=aIL w.heap.size (w.heap.size+1) (w.heap.size+2) (w.heap.size+3) (w.heap.size+4)
 have hok:=aS4 w.heap.size (w.heap.size+1) (w.heap.size+2) (w.heap.size+3) (w.heap.size+4)
 have hin:InW W5 x:=by
  rw [←ex]
  refine ⟨.inl ⟨rfl,rfl,rfl⟩,.inl rfl,.inr ⟨_,0,rfl,aAe v1,fun i hi=>?_⟩,.inr ⟨_,0,rfl,aAe v2,fun i hi=>?_⟩,.inr (.inr ⟨_,0,rfl,Nat.le_refl _,by show 1≤_;omega,aAe v3,fun i hi=>?_⟩),.inr (.inr ⟨_,0,rfl,Nat.le_refl _,by show 1≤_;omega,aAe v4,fun i hi=>?_⟩),.inr ⟨_,0,rfl,aAe v5,fun i hi=>?_⟩⟩
  ·obtain rfl:i=0:=by have:i < 1:=hi;omega
   exact aNe v1
  ·obtain rfl:i=0:=by have:i < 1:=hi;omega
   exact (aAs (i:=0) v2).trans rfl
  ·obtain rfl:i=0:=by have:i < 1:=hi;omega
   exact (aAs (i:=0) v3).trans rfl
  ·obtain rfl:i=0:=by have:i < 1:=hi;omega
   exact (aAs (i:=0) v4).trans rfl
  ·obtain rfl:i=0:=by have:i < 1:=hi;omega
   exact (aAs (i:=0) v5).trans rfl
 have hni:aGw x:=by rw [←ex];exact ⟨fun _=>⟨rfl,rfl⟩,fun h=>(by cases h),fun h=>(by cases h),fun h=>(by cases h)⟩
 have hln:Lns x:=by rw [←ex];exact ⟨by show 1≤_;omega,by show 1≤_;omega,by show 1≤_;omega⟩
 rw [ex] at hq hr hok
 have hsl:∀ W,Up W5 W→Calls Tryz.prog 10 #[.agg (cel (aA0 x)),.int .u64 0] W fun e' w'=>∃ X,e'=.returned (.tuple #[.agg (cel (aA0 X)),.int .i64 0])∧Res W.heap.size w' (aEw x 0 0) X∧Below W.heap.size W w':=fun W h=>by
  have:=pS x 0 W hok (hin.below h) hni hln (Int.le_refl _) (hS.below (upT hB5 h))
  rw [hq.1,hq.2.1] at this
  exact this
 have hlv:∀ W,Up W5 W→Calls Tryz.prog 11 #[.agg (cel (aA0 x)),.int .u64 1] W fun e' w'=>∃ X,e'=.returned (.tuple #[.agg (cel (aA0 X)),.int .i64 1])∧Below W.heap.size W w':=fun W h=>by
  refine (pL x 1 W hok (hin.below h) hni hln (by omega)).mono ?_
  rintro e' w' ⟨X,rfl,_,hb⟩
  rw [hq.2.2]
  exact ⟨X,rfl,hb⟩
 obtain ⟨_,_,hx6,hx3,hxn⟩:=hr
 obtain ⟨xs,exs⟩:∃ s,aEw x 0 0=s:=⟨_,rfl⟩
 rw [exs] at hsl hx6 hx3 hxn
 have z:=aBg
 obtain ⟨W6,b6,hW6,eb6,r6,hd6,_⟩:=aD1 (Below.refl W5.heap.size W5) (.cells (cel (aA0 x)) 49)
 have e6:b6=w.heap.size+1+1+1+1+1:=by rw [←eb6,←hW5];simp
 have s6:(aGp ⟨w.heap.size+1+1+1+1+1,0,none⟩ (.agg (cel (aA0 x)))).run Tryz.prog ((((((w.alloc (.cells (cel (aA3 oV2)) 65)).alloc (.cells #[.int .u64 32000000000] 22)).alloc (.cells #[.int .u8 0] 5)).alloc (.cells #[.int .u8 0] 5)).alloc (.cells #[.int .u64 0] 22)).alloc (.cells (cel (aA0 aAn)) 49))=.ok () W6:=by
  have:=aBK W5 aAn x
  rw [hW6,eb6,e6] at this
  rw [hW5]
  exact this
 have HSL:=hid hsl
 have HLV:=hid hlv
 have HX:=hid (And.intro hx6 (And.intro hx3 hxn))
 have R6:=hid r6
 have HD6:=hid hd6
 have HB5:=hid hB5
 have EB6:=hid eb6
 obtain ⟨ov,eov⟩:∃ v,oV2=v:=⟨_,rfl⟩
 rw [eov] at b1 b2 s6
 have E6:=hid e6
 clear hsl hlv hx6 hx3 hxn r6 hd6 hB5 eb6 hW5 hW6 e6 hin hni hln hok hq pL pS hS v1 v2 v3 v4 v5 ex exs eov
 go_enter Tryz.func4,Tryz.ntmps4
 go_upto_region 2 with fail
 rw [←E6.out]
 clear s6 b1 b2 bd
 have l6:=aAg R6.out
 have HSL6:=hid (HSL.out W6 HD6.out)
 go_upto_region 3 with (go_at_call 10;refine HSL6.out.mono ?_;rintro e' w7 ⟨X,rfl,hrs,hb7⟩;have sv:=aBK w7 aAn X)
 obtain ⟨W7,y7,hW7,ey7,r7,hd7,_⟩:=aD1 hb7 (.cells (cel (aA0 X)) 49)
 rw [hW7,ey7]
 have hu7:=upT hb7 hd7
 have R7:=hid r7
 have HU7:=hid (upT HD6.out hu7)
 have HRS:=hid (hrs.below hd7)
 have R67:=hid (upR hu7 R6.out)
 have HLV7:=hid (HLV.out W7 HU7.out)
 clear hW7 ey7 r7 hd7 hb7 hu7 hrs sv HSL HSL6 l6 HLV
 have l6:=aAg R67.out
 go_upto_region 4 with (go_at_call 11;refine HLV7.out.mono ?_;rintro e' w8 ⟨X8,rfl,hb8⟩;have sv:=aBK w8 aAn X8)
 obtain ⟨W8,y8,hW8,ey8,r8,hd8,_⟩:=aD1 hb8 (.cells (cel (aA0 X8)) 49)
 rw [hW8,ey8]
 have hu8:=upT hb8 hd8
 have hrs:=HRS.out.below hu8
 have c11:=aFv (upR hu8 R7.out)
 have hn1:X.f11.n=1:=by rw [hrs.sim.l11];exact HX.out.2.2
 rcases hrs.inw.i11 with h0 | ⟨b,off,ea,hbl,hr⟩
 ·omega
 have hr0:=hr 0 (by omega)
 rw [hn1,ea] at c11
 have e6:=aEI hr0
 have e3:=aON hr0
 rw [hrs.sim.z11,HX.out.1] at e6
 rw [hrs.sim.z11,HX.out.2.1] at e3
 have ix:∀ W,(aC1 (.slice (some ⟨b,off,none⟩) 1 X.f11.c) (.int .i64 0)).run Tryz.prog W=.ok (.pointer (some ⟨b,off+86*0,none⟩)) W:=fun W=>aB7 W b off 1 X.f11.c 0 (by omega)
 obtain ⟨P,eP⟩:∃ P,off+86*0=P:=⟨_,rfl⟩
 rw [eP] at e6 e3
 simp only [eP] at ix
 have HU8:=hid (upT HB5.out (upT HU7.out hu8))
 generalize X.f11.c=C at c11 ix
 clear hW8 ey8 r8 hd8 hb8 hu8 hrs sv hr hr0 HRS R7 R67 HU7 HB5 HD6 eP ea hn1 l6 HLV7
 go_wp2
 go_ret
 exact ⟨rfl,HU8.out⟩
def aVy (x i:Value):Sem Value:=Instr.indexAt 110 x i
theorem aPo (x i:Value):Instr.indexAt 110 x i=aVy x i:=rfl
attribute [local go_sem ↓] aPo
theorem aSO {x X:aA1} (i:Int) (h:aAD x) (hl:Lns x) (hs:aBQ x X) (h0:0≤i):aBQ (sqS x i) (sqS X i)∧aAD (sqS x i)∧Lns (sqS x i)∧(sqE x i=0→Rch (sqS x i)):=by
 refine ⟨aLC hs i,?_⟩
 unfold sqS
 by_cases hz:sqE x i=0
 ·rw [if_pos hz]
  have hz2:=hz
  unfold sqE at hz2
  by_cases hc:aAN x=true∧i < (x.f11.n:Int)
  ·rw [if_pos hc] at hz2
   by_cases hp:prE x=0
   ·rw [if_pos hp] at hz2
    by_cases hr:aAN (slS x i.toNat)=true
    ·exact ⟨(((aAS hc.1).rg h).s i.toNat (by have:=hc.2;omega)).ok,aFc hr,fun _=>aEh hr⟩
    ·rw [if_neg hr] at hz2;omega
   ·rw [if_neg hp] at hz2;exact absurd hz2 hp
  ·rw [if_neg hc] at hz2;omega
 ·rw [if_neg hz]
  exact ⟨aOx,aTA,fun h=>absurd h hz⟩
end
end Go.Proofs.YtdjplhibmomajaaGreatDoor
