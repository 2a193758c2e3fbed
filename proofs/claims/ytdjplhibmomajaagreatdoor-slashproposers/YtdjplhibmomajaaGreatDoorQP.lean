/- A part. -/
import Derived.Test.YtdjplhibmomajaaGreatDoorPkP
import Derived.Test.YtdjplhibmomajaaGreatDoorQK
import Derived.Test.YtdjplhibmomajaaGreatDoorQN
import Derived.Test.YtdjplhibmomajaaGreatDoorSgP
import Derived.Test.YtdjplhibmomajaaGreatDoorQO
namespace Go.Proofs.YtdjplhibmomajaaGreatDoor
open Go.RowKit
set_option linter.unusedVariables false
set_option linter.unusedSimpArgs false
section
open Go.RowKit
set_option linter.unusedVariables false
set_option linter.unusedSimpArgs false
set_option maxRecDepth 20000
attribute [local go_sem ↓] aAq aAr aAz aAi aAl aAw aAu aAt aBJ
set_option maxHeartbeats 4000000 in
theorem aKY:aTb:=fun x w ho hx hS=>by
 obtain ⟨W0,hW0⟩:∃ W,w.alloc (.cells (cel (aA0 x)) 49)=W:=⟨_,rfl⟩
 have r0:W0.heap[w.heap.size]?=some (.cells (cel (aA0 x)) 49):=by rw [←hW0];exact aA2 rfl
 have hB0:Below w.heap.size w W0:=by rw [←hW0];exact (Below.refl _ _).alloc (Nat.le_refl _) _
 have z0:w.heap.size < W0.heap.size:=aAe r0
 have hld:∀ W:World,Below W0.heap.size W0 W→(aCc ⟨w.heap.size,0,none⟩).run Tryz.prog W=.ok (.agg (cel (aA0 x))) W:=fun W h=>aAg ((h.block _ z0).trans r0)
 have hc2:∀ W:World,Below W0.heap.size W0 W→W.cell? ⟨w.heap.size,33,none⟩=some (.int .u64 x.f2):=fun W h=>cS2 ((h.block _ z0).trans r0)
 have c2:=hc2 W0 (Below.refl _ _)
 have hx0:=hx.below hB0
 have hS0:=hS.below hB0
 have hsl:=hx.sl
 have hse:∀ W,Below W0.heap.size W0 W→Calls Tryz.prog 86 #[.agg (cel (aA0 x)),.int .u64 (x.f2 / 4),.int .i64 0] W fun e' w'=>e'=.returned (.agg (vs .u8 32 (aCP x (x.f2 / 4) 0)))∧Below W.heap.size W w':=fun W h=>aNo x (x.f2 / 4) 0 W ho (by omega) (by omega) (hS0.below h)
 have hsb:∀ j,j < 32→0≤aCP x (x.f2 / 4) 0 j∧aCP x (x.f2 / 4) 0 j < 256:=fun j _=>aIP ..
 have hsm:∀ (W:World),Below W0.heap.size W0 W→Calls Tryz.prog 85 #[.agg (vs .u8 32 (aCP x (x.f2 / 4) 0)),.int .u64 x.f2] W fun e w'=>e=.returned (.agg (vs .u8 32 (prS x)))∧Below W.heap.size W w':=fun W h=>aHh _ x.f2 W hsb (by omega) (by omega) (hS0.below h)
 have hpb:∀ j,j < 32→0≤prS x j∧prS x j < 256:=fun j _=>aBU ..
 have hdw:∀ (W:World),Below W0.heap.size W0 W→Calls Tryz.prog 87 #[.agg (cel (aA0 x)),.int .u64 (x.f2 / 4),.agg (vs .u8 32 (prS x)),.int .i64 1] W fun e' w'=>∃ a c,e'=.returned (.tuple #[.slice a (prL x).length c,.int .i64 (prE x)])∧Nml w' a (prL x)∧Below W.heap.size W w':=fun W h=>aMF x (x.f2 / 4) (prS x) 1 W (hx0.below h) hpb (by omega) (by omega) (hS0.below h)
 have hd1:=aKi x.f11.z (acE x (x.f2 / 4)) (prS x) 1
 have hV:prV x=(prL x).getD 0 0:=rfl
 rw [show dwE x.f11.z (acE x (x.f2 / 4)) (prS x) 1=prE x from rfl,show dwL x.f11.z (acE x (x.f2 / 4)) (prS x) 1=prL x from rfl] at hd1
 obtain ⟨SD,eSD⟩:∃ SD,aCP x (x.f2 / 4) 0=SD:=⟨_,rfl⟩
 rw [eSD] at hse hsm
 generalize prL x=PL at hdw hd1 hV
 generalize prE x=PE at hdw hd1 ⊢
 generalize prV x=PV at hV ⊢
 generalize prS x=PS at hsm hdw
 generalize acE x (x.f2 / 4)=L at hd1
 obtain ⟨E,eE⟩:∃ E,x.f2 / 4=E:=⟨_,rfl⟩
 rw [eE] at hse hdw
 obtain ⟨s0,s1⟩:=hsl
 generalize x.f2=T at hc2 c2 hsm eE s0 s1
 have qd:IntKind.u64.wrap (T.tdiv 4)=E:=by rw [Int.tdiv_eq_ediv_of_nonneg s0,IntKind.wrap_u64];omega
 have hBd:Below W0.heap.size W0 W0.drew:=(Below.refl _ _).drew
 have HB:=hid hB0
 have HW:=hid hW0
 have HLD:=hid hld
 have HC2:=hid hc2
 have HSE:=hid hse
 have HSM:=hid hsm
 have HDW:=hid hdw
 have HD1:=hid (And.intro hd1 hV)
 clear hB0 hW0 hld hc2 hse hsm hdw hd1 hV hx hx0 ho hS hS0 r0 hsb hpb eSD
 go_enter Tryz.func46,Tryz.ntmps46
 go_upto_region 1 with fail
 rw [HW.out]
 clear HW
 go_upto_region 2 with fail
 clear c2 eE qd s0 s1
 go_cut [5] from 8 (fun u wx=>∃ y,u=.pointer (some ⟨y,0,none⟩)∧wx.heap[y]?=some (.cells (vs .u8 32 PS) 24)∧Below W0.heap.size W0 wx)
 case first =>
  refine wp_region_noPanic ?_
  refine wp_region_held_drew (S:=fun W=>Below W0.heap.size W0 W) (by kernel_rfl) (hBd) (fun hHeld=>?_)
  refine tk 0 (v:=?v9) ?y9 hHeld ?r9
  case y9=>intro w hSw;have ld:=HLD.out w hSw;go_simp;try with_reducible rfl
  refine tk 1 (v:=?v10) ?y10 hHeld ?r10
  case y10=>intro w hSw;go_simp;try with_reducible rfl
  refine tk 3 (v:=?v11) ?y11 hHeld ?r11
  case y11=>intro w hSw;go_simp;try with_reducible rfl
  refine tk 4 (v:=?v12) ?y12 hHeld ?r12
  case y12=>intro w hSw;have ld:=HC2.out w hSw;go_simp;try with_reducible rfl
  try simp only [Act.put,z_1,z_2,z_3,z_4,z_5,z_6,z_7]
  refine wpAnyH_ready (rs:=[2,6]) (by kernel_rfl) (by simp) ?_
  refine AllReadyH.cons rfl (fun K hK=>?_) (AllReadyH.cons rfl (fun K hK=>?_) AllReadyH.nil)
  ·go_simp
   refine (HSE.out _ hBd).mono ?_
   rintro e' x1 ⟨rfl,hd1⟩
   dsimp only
   have hc1:Below W0.heap.size W0 x1:=(hBd).trans (hd1.mono (hBd).size)
   refine hK.out _ _ (hc1) (fun hHeld=>?_)
   clear hK K
   try simp only [Act.put,z_1,z_2,z_3,z_4,z_5,z_6,z_7]
   refine wpAnyH_ready (rs:=[5,6]) (by kernel_rfl) (by simp) ?_
   refine AllReadyH.cons rfl (fun K hK=>?_) (AllReadyH.cons rfl (fun K hK=>?_) AllReadyH.nil)
   ·go_simp
    refine (HSM.out _ hc1).mono ?_
    rintro e' x2 ⟨rfl,hd2⟩
    dsimp only
    have hc2:Below W0.heap.size W0 x2:=(hc1).trans (hd2.mono (hc1).size)
    refine hK.out _ _ (hc2) (fun hHeld=>?_)
    clear hK K
    try simp only [Act.put,z_1,z_2,z_3,z_4,z_5,z_6,z_7]
    refine wpAnyH_ready (rs:=[6]) (by kernel_rfl) (by simp) ?_
    refine AllReadyH.cons rfl (fun K hK=>?_) AllReadyH.nil
    have zr:=aAj
    go_simp
    have hc3:Below W0.heap.size W0 (x2.alloc (.cells (vs .u8 32 fun _=>0) 24)):=(hc2).alloc (hc2).size _
    have ry3:(x2.alloc (.cells (vs .u8 32 fun _=>0) 24)).heap[x2.heap.size]?=some (.cells (vs .u8 32 fun _=>0) 24):=aA2 (by simp)
    have hy3:W0.heap.size≤x2.heap.size:=(hc2).size
    refine hK.out _ _ (hc3) (fun hHeld=>?_)
    clear hK K
    try simp only [Act.put,z_1,z_2,z_3,z_4,z_5,z_6,z_7]
    refine wpAnyH_ready (rs:=[7]) (by kernel_rfl) (by simp) ?_
    refine AllReadyH.cons rfl (fun K hK=>?_) AllReadyH.nil
    have v3:=aAv ry3 PS
    go_simp
    have hc4:Below W0.heap.size W0 _:=aA6 (hc3) hy3 (vs .u8 32 PS)
    refine hK.out _ _ (hc4) (fun hHeld=>?_)
    clear hK K
    try simp only [Act.put,z_1,z_2,z_3,z_4,z_5,z_6,z_7]
    refine wpAnyH_done (by kernel_rfl) ?_ _
    refine NoPanic.normal ?_
    go_wp2
    go_meet
    exact ⟨_,rfl,aA4 ry3,hc4⟩
   ·have zr:=aAj
    go_simp
    have hc5:Below W0.heap.size W0 (x1.alloc (.cells (vs .u8 32 fun _=>0) 24)):=(hc1).alloc (hc1).size _
    have ry5:(x1.alloc (.cells (vs .u8 32 fun _=>0) 24)).heap[x1.heap.size]?=some (.cells (vs .u8 32 fun _=>0) 24):=aA2 (by simp)
    have hy5:W0.heap.size≤x1.heap.size:=(hc1).size
    refine hK.out _ _ (hc5) (fun hHeld=>?_)
    clear hK K
    try simp only [Act.put,z_1,z_2,z_3,z_4,z_5,z_6,z_7]
    refine wpAnyH_ready (rs:=[5]) (by kernel_rfl) (by simp) ?_
    refine AllReadyH.cons rfl (fun K hK=>?_) AllReadyH.nil
    go_simp
    refine (HSM.out _ hc5).mono ?_
    rintro e' x6 ⟨rfl,hd6⟩
    dsimp only
    have hc6:Below W0.heap.size W0 x6:=(hc5).trans (hd6.mono (hc5).size)
    have ry6:=(hd6.block _ (aAe ry5)).trans ry5
    refine hK.out _ _ (hc6) (fun hHeld=>?_)
    clear hK K
    try simp only [Act.put,z_1,z_2,z_3,z_4,z_5,z_6,z_7]
    refine wpAnyH_ready (rs:=[7]) (by kernel_rfl) (by simp) ?_
    refine AllReadyH.cons rfl (fun K hK=>?_) AllReadyH.nil
    have v3:=aAv ry6 PS
    go_simp
    have hc7:Below W0.heap.size W0 _:=aA6 (hc6) hy5 (vs .u8 32 PS)
    refine hK.out _ _ (hc7) (fun hHeld=>?_)
    clear hK K
    try simp only [Act.put,z_1,z_2,z_3,z_4,z_5,z_6,z_7]
    refine wpAnyH_done (by kernel_rfl) ?_ _
    refine NoPanic.normal ?_
    go_wp2
    go_meet
    exact ⟨_,rfl,aA4 ry6,hc7⟩
  ·have zr:=aAj
   go_simp
   have hc8:Below W0.heap.size W0 (W0.drew.alloc (.cells (vs .u8 32 fun _=>0) 24)):=(hBd).alloc (hBd).size _
   have ry8:(W0.drew.alloc (.cells (vs .u8 32 fun _=>0) 24)).heap[W0.heap.size]?=some (.cells (vs .u8 32 fun _=>0) 24):=aA2 (by simp)
   have hy8:W0.heap.size≤W0.heap.size:=(hBd).size
   refine hK.out _ _ (hc8) (fun hHeld=>?_)
   clear hK K
   try simp only [Act.put,z_1,z_2,z_3,z_4,z_5,z_6,z_7]
   refine wpAnyH_ready (rs:=[2]) (by kernel_rfl) (by simp) ?_
   refine AllReadyH.cons rfl (fun K hK=>?_) AllReadyH.nil
   go_simp
   refine (HSE.out _ hc8).mono ?_
   rintro e' x9 ⟨rfl,hd9⟩
   dsimp only
   have hc9:Below W0.heap.size W0 x9:=(hc8).trans (hd9.mono (hc8).size)
   have ry9:=(hd9.block _ (aAe ry8)).trans ry8
   refine hK.out _ _ (hc9) (fun hHeld=>?_)
   clear hK K
   try simp only [Act.put,z_1,z_2,z_3,z_4,z_5,z_6,z_7]
   refine wpAnyH_ready (rs:=[5]) (by kernel_rfl) (by simp) ?_
   refine AllReadyH.cons rfl (fun K hK=>?_) AllReadyH.nil
   go_simp
   refine (HSM.out _ hc9).mono ?_
   rintro e' x10 ⟨rfl,hd10⟩
   dsimp only
   have hc10:Below W0.heap.size W0 x10:=(hc9).trans (hd10.mono (hc9).size)
   have ry10:=(hd10.block _ (aAe ry9)).trans ry9
   refine hK.out _ _ (hc10) (fun hHeld=>?_)
   clear hK K
   try simp only [Act.put,z_1,z_2,z_3,z_4,z_5,z_6,z_7]
   refine wpAnyH_ready (rs:=[7]) (by kernel_rfl) (by simp) ?_
   refine AllReadyH.cons rfl (fun K hK=>?_) AllReadyH.nil
   have v3:=aAv ry10 PS
   go_simp
   have hc11:Below W0.heap.size W0 _:=aA6 (hc10) hy8 (vs .u8 32 PS)
   refine hK.out _ _ (hc11) (fun hHeld=>?_)
   clear hK K
   try simp only [Act.put,z_1,z_2,z_3,z_4,z_5,z_6,z_7]
   refine wpAnyH_done (by kernel_rfl) ?_ _
   refine NoPanic.normal ?_
   go_wp2
   go_meet
   exact ⟨_,rfl,aA4 ry10,hc11⟩
 case rest =>
  obtain ⟨y,rfl,ry,hc⟩:=hcut
  have l1:=HLD.out wc hc
  have l2:=aAU ry
  have hdw:=HDW.out wc hc
  have HDWW:=hid hdw
  have HC:=hid hc
  clear HLD HC2 HSE HSM HDW hBd hdw hc ry
  go_upto_region 4 with (go_at_call 87;refine HDWW.out.mono ?_;rintro e' w4 ⟨a,c,rfl,hn,hb⟩)
  have hE:Below w.heap.size w w4:=HB.out.trans ((HC.out.trans (hb.mono HC.out.size)).mono HB.out.size)
  obtain ⟨h1,hV⟩:=HD1.out
  rcases h1 with ⟨e0,e1,_⟩ | ⟨e0,e1⟩
  ·subst e0
   rcases hn with e2 | ⟨b,o,ea,_,hc⟩
   ·omega
   subst ea
   have c0:w4.cell? ⟨b,o,none⟩=some (.int .u64 PV):=by
    have:=hc 0 (by omega)
    rw [Nat.add_zero] at this
    rw [hV]
    exact this
   have HE:=hid hE
   rw [e1]
   clear hc hV hE HB HD1 hb e1 l1 l2 HC HDWW
   go_wp2
   go_ret2
   exact ⟨rfl,HE.out⟩
  ·subst e0
   rw [e1] at hV
   have HV:=hid hV
   have HE:=hid hE
   clear hV hE HB HD1 hb hn l1 l2 HC HDWW
   go_wp2
   go_ret2
   exact ⟨by rw [HV.out];rfl,HE.out⟩
end
section
open Go.RowKit
set_option linter.unusedVariables false
set_option linter.unusedSimpArgs false
set_option maxRecDepth 20000
def hqV (x:aA1) (h:aAM):Nat→Int:=qsV (x.f11.z h.f0.f1.toNat).f0 1 (tw (aBn h.f0) (aEK x 0 (h.f0.f0 / 4))) h.f1
theorem aOh (x:aB6) (hx:aBV x) (j:Nat) (hj:j < 32):0≤aBn x j∧aBn x j < 256:=by
 have eh:aBn x=aCf (fl7 [bR (nmB x.f0) 8,bR (nmB x.f1) 8,bR x.f2 32,bR x.f3 32,bR x.f4 32]) 5 (5:Nat):=rfl
 rw [eh]
 have hf:ByB (fl7 [bR (nmB x.f0) 8,bR (nmB x.f1) 8,bR x.f2 32,bR x.f3 32,bR x.f4 32]) (32*5):=by
  refine aKp (fun c hc j hj=>?_) (32*5)
  rcases List.mem_cons.1 hc with rfl | hc
  ·exact aC6 (aE1 (fun j _=>aDA _ j) _) _ j hj
  rcases List.mem_cons.1 hc with rfl | hc
  ·exact aC6 (aE1 (fun j _=>aDA _ j) _) _ j hj
  rcases List.mem_cons.1 hc with rfl | hc
  ·exact aC6 (aE1 hx.2.2.1 _) _ j hj
  rcases List.mem_cons.1 hc with rfl | hc
  ·exact aC6 (aE1 hx.2.2.2.1 _) _ j hj
  rw [List.mem_singleton] at hc
  rw [hc]
  exact aC6 (aE1 hx.2.2.2.2 _) _ j hj
 exact aC6 hf _ j hj
theorem aD3 {w:World} {g:Nat} {t:TypeId} {a b:List Value} {C:Array Value} (h:w.heap[g]?=some (.cells C t)) (l:List Value) (e:C=(a++(l++b)).toArray):w.rangeAt g a.length l:=by
 intro j v hj
 rw [aAs h,e,List.getElem?_toArray,List.getElem?_append_right (by omega),Nat.add_sub_cancel_left,List.getElem?_append_left (List.getElem?_eq_some_iff.1 hj).1]
 exact hj
theorem aEr {w:World} {g o:Nat} {x:aB6} (h:w.rangeAt g o (aAW (aAm x))):(aBt ⟨g,o,none⟩).run Tryz.prog w=.ok (.agg (cel (aAm x))) w :=
 aAP (run_loadAt_mid w g o 30 _ _ h Tryz.underlying30 rfl (by rw [aAC,show aCa (aAm x)=98 from rfl];kernel_rfl))
theorem aHH {w:World} {g o:Nat} {s:Nat→Int} (h:w.rangeAt g o (bl s 96)):(aRN ⟨g,o,none⟩).run Tryz.prog w=.ok (.agg (vs .u8 96 s)) w :=
 aAP (run_loadAt_mid w g o 51 _ _ h Tryz.underlying51 rfl (by rw [List.length_map,List.length_range];kernel_rfl))
theorem aSF (s:aAM):cel (aAf s)=([]++(aAW (aAm s.f0)++bl s.f1 96)).toArray:=by kernel_rfl
theorem aPX (s:aAM):cel (aAf s)=(aAW (aAm s.f0)++(bl s.f1 96++[])).toArray:=by kernel_rfl
theorem sh_head {w:World} {g:Nat} {t:TypeId} {s:aAM} (h:w.heap[g]?=some (.cells (cel (aAf s)) t)):(aBt ⟨g,0,none⟩).run Tryz.prog w=.ok (.agg (cel (aAm s.f0))) w :=
 aEr (aD3 (a:=[]) h _ (aSF s))
theorem aSG {w:World} {g:Nat} {t:TypeId} {s:aAM} (h:w.heap[g]?=some (.cells (cel (aAf s)) t)):(aRN ⟨g,98,none⟩).run Tryz.prog w=.ok (.agg (vs .u8 96 s.f1)) w:=by
 have:=aD3 (a:=aAW (aAm s.f0)) (b:=[]) h _ (aPX s)
 rw [aAC,show aCa (aAm s.f0)=98 from rfl] at this
 exact aHH this
attribute [local go_sem ↓] aAq aAt aAu aF3 aDx aK0 aB8 aAw aAi
set_option maxHeartbeats 8000000 in
theorem aOk (x : aA1) (h : aAM) (V : Nat) (w : World) (hx : aAD x) (hw : InW w x) (hV : V < x.f11.n) (hv : h.f0.f1 = (V : Int)) (hh : aBV h.f0 ∧ ∀ j, j < 96 → 0 ≤ h.f1 j ∧ h.f1 j < 256) (hS : Sh w) :
    Calls Tryz.prog 17 #[.agg (cel (aA0 x)),.agg (cel (aAf h))] w fun e' w'=>e'=.returned (.agg (vs .u8 32 (hqV x h)))∧Below w.heap.size w w':=by
 obtain ⟨W0,hW0⟩:∃ W,((w.alloc (.cells (cel (aA0 x)) 49)).alloc (.cells (cel (aAf h)) 53)).alloc (.cells (vs .u8 32 fun _=>0) 24)=W:=⟨_,rfl⟩
 have r0:W0.heap[w.heap.size]?=some (.cells (cel (aA0 x)) 49):=by rw [←hW0];exact (aAc (by simp<;>omega)).trans ((aAc (by simp)).trans (aA2 rfl))
 have r1:W0.heap[w.heap.size+1]?=some (.cells (cel (aAf h)) 53):=by rw [←hW0];exact (aAc (by simp)).trans (aA2 (by simp))
 have r2:W0.heap[w.heap.size+2]?=some (.cells (vs .u8 32 fun _=>0) 24):=by rw [←hW0];exact aA2 (by simp)
 have hB0:Up w W0:=by rw [←hW0];exact (((Below.refl _ _).alloc (Nat.le_refl _) _).alloc (by simp) _).alloc (by simp<;>omega) _
 have p0:0≤h.f0.f0:=hh.1.1.1
 have p1:h.f0.f0 < 18446744073709551616:=hh.1.1.2
 have hs:=hh.2
 have ehq:hqV x h=qsV (x.f11.z V).f0 1 (tw (aBn h.f0) (aEK x 0 (h.f0.f0 / 4))) h.f1:=by unfold hqV;rw [hv];rfl
 have hdo:=fun (W:World) (h':Up W0 W)=>aMC x 0 (h.f0.f0 / 4) W hx (by omega) (by omega) (by omega) (by omega) (hS.below (upT hB0 h'))
 have hrh:=fun (W:World) (h':Up W0 W)=>aFq h.f0 W hh.1 (hS.below (upT hB0 h'))
 have hro:=fun (W:World) (h':Up W0 W)=>aNi (aBn h.f0) (aEK x 0 (h.f0.f0 / 4)) W (aOh h.f0 hh.1) (fun j _=>aV8 ..) (hS.below (upT hB0 h'))
 have hqu:∀ (W:World) y,Up W0 W→W.heap[y]?=some (.cells (vs .u8 48 (x.f11.z V).f0) 44)→Calls Tryz.prog 44 #[.slice (some ⟨y,0,none⟩) 1 1,.agg (vs .u8 32 (tw (aBn h.f0) (aEK x 0 (h.f0.f0 / 4)))),.agg (vs .u8 96 h.f1)] W fun e' w'=>e'=.returned (.agg (vs .u8 32 (qsV (x.f11.z V).f0 1 (tw (aBn h.f0) (aEK x 0 (h.f0.f0 / 4))) h.f1)))∧Below W.heap.size W w':=fun W y h' hy=>aNd (some ⟨y,0,none⟩) 1 1 (x.f11.z V).f0 _ h.f1 W (.inr (.inr ⟨y,0,rfl,by omega,aAe hy,fun j hj=>by rw [Nat.zero_add];exact aA8 hy j (by omega)⟩)) (fun j hj=>(hx.o11 V hV).1 j (by omega)) (fun j _=>twB ..) hs (by omega) (hS.below (upT hB0 h'))
 rw [←ehq] at hqu
 clear ehq
 rcases hw.i11 with h' | ⟨b,off,ea,hbl,hrr⟩
 ·omega
 have hc11:∀ W,Kept (w.heap.size+2) W0 W→W.cell? ⟨w.heap.size,721,none⟩=some (.slice (some ⟨b,off,none⟩) x.f11.n x.f11.c):=fun W h=>by
  have:=aFv ((h.block _ (aAe r0) (by omega)).trans r0)
  rw [ea] at this
  exact this
 have hix:=fun W=>aBf W b off x.f11.n x.f11.c V hV
 have hlk2:∀ W,Kept (w.heap.size+2) W0 W→(aRM ⟨b,off+86*V,none⟩).run Tryz.prog W=.ok (.agg (vs .u8 48 (x.f11.z V).f0)) W:=fun W h=>aG3 fun j hj=>(h.cell (Nat.lt_of_lt_of_le hbl hB0.size) (by omega)).trans ((aAk hB0 hbl).trans (aLJ (hrr V hV) j hj))
 have hr1:∀ W,Kept (w.heap.size+2) W0 W→W.heap[w.heap.size+1]?=some (.cells (cel (aAf h)) 53):=fun W h=>(h.block _ (aAe r1) (by omega)).trans r1
 have hlh:∀ W,Up W0 W→(aBt ⟨w.heap.size+1,0,none⟩).run Tryz.prog W=.ok (.agg (cel (aAm h.f0))) W:=fun W h'=>sh_head (hr1 W (Kept.ofBelow h'))
 have hls:∀ W,Kept (w.heap.size+2) W0 W→(aRN ⟨w.heap.size+1,98,none⟩).run Tryz.prog W=.ok (.agg (vs .u8 96 h.f1)) W:=fun W h'=>aSG (hr1 W h')
 have hwho:∀ W,Kept (w.heap.size+2) W0 W→W.cell? ⟨w.heap.size+1,1,none⟩=some (.int .u64 (V:Int)):=fun W h'=>by
  have:=aAH (hr1 W h') 1 h.f0.f1 rfl 1 rfl
  rw [hv] at this
  exact this
 have csl:W0.cell? ⟨w.heap.size+1,0,none⟩=some (.int .u64 h.f0.f0):=aAH r1 0 h.f0.f0 rfl 0 rfl
 have lx:=aAg r0
 have z0:w.heap.size+2 < W0.heap.size:=aAe r2
 generalize hqV x h=QV at hqu ⊢
 generalize tw (aBn h.f0) (aEK x 0 (h.f0.f0 / 4))=RT at hro hqu
 generalize aEK x 0 (h.f0.f0 / 4)=DM at hdo hro
 generalize aBn h.f0=HR at hrh hro
 generalize (x.f11.z V).f0=KF at hqu hlk2
 generalize x.f11.c=C11 at hc11 hix
 generalize x.f11.n=N11 at hc11 hix hV
 have HDO:=hid hdo
 have HRH0:=hid hrh
 have HRO0:=hid hro
 have HQU0:=hid hqu
 have HC110:=hid hc11
 have HIX:=hid hix
 have HLK0:=hid hlk2
 have HLH0:=hid hlh
 have HLS0:=hid hls
 have HWHO0:=hid hwho
 have HB:=hid hB0
 have HWo:=hid hW0
 have RR:=hid r2
 clear hdo hrh hro hqu hc11 hix hlk2 hlh hls hwho hB0 hW0 r0 r1 r2 hx hw hs hS hr1 hv hh ea hbl hrr
 obtain ⟨XC,eXC⟩:∃ X,cel (aA0 x)=X:=⟨_,rfl⟩
 obtain ⟨HC,eHC⟩:∃ X,cel (aAf h)=X:=⟨_,rfl⟩
 obtain ⟨HH,eHH⟩:∃ X,cel (aAm h.f0)=X:=⟨_,rfl⟩
 obtain ⟨SG,eSG⟩:∃ X,h.f1=X:=⟨_,rfl⟩
 rw [eXC] at HDO HWo lx ⊢
 rw [eHC] at HWo ⊢
 rw [eHH] at HRH0 HLH0
 rw [eSG] at HQU0 HLS0
 obtain ⟨p,ep⟩:∃ p,h.f0.f0=p:=⟨_,rfl⟩
 rw [ep] at HDO csl p0 p1
 clear eXC eHC eHH eSG ep
 have pt:p.tdiv 4=p / 4:=Int.tdiv_eq_ediv_of_nonneg p0
 have pq:IntKind.u64.wrap (p / 4)=p / 4:=by rw [IntKind.wrap_u64];omega
 have z:=aAj
 go_enter Tryz.func17,Tryz.ntmps17
 go_upto_region 1 with fail
 rw [HWo.out]
 clear HWo
 go_upto_region 2 with (go_at_call 41;refine (HDO.out _ (Below.refl _ _)).mono ?_;rintro e' W3 ⟨rfl,hb3⟩;have sv:=aBc W3 (fun _=>0) DM)
 obtain ⟨W4,y5,hV4,ey5,r5,hd5,hy5⟩:=aD1 hb3 (.cells (vs .u8 32 DM) 24)
 rw [hV4,ey5]
 have HU4:=hid (upT hb3 hd5)
 have RD:=hid r5
 clear hb3 lx csl z HDO sv hV4 ey5 r5 hd5 hy5 pt pq p0 p1
 have HRH:=hid (fun W (h:Up W4 W)=>HRH0.out W (upT HU4.out h))
 have HRO:=hid (fun W (h:Up W4 W)=>HRO0.out W (upT HU4.out h))
 have HQU:=hid (fun W y (h:Up W4 W) hy=>HQU0.out W y (upT HU4.out h) hy)
 have HC11:=hid (fun W (h:Kept (w.heap.size+2) W4 W)=>HC110.out W ((Kept.ofBelow HU4.out).trans h))
 have HLK:=hid (fun W (h:Kept (w.heap.size+2) W4 W)=>HLK0.out W ((Kept.ofBelow HU4.out).trans h))
 have HLH:=hid (fun W (h:Up W4 W)=>HLH0.out W (upT HU4.out h))
 have HLS:=hid (fun W (h:Kept (w.heap.size+2) W4 W)=>HLS0.out W ((Kept.ofBelow HU4.out).trans h))
 have HWHO:=hid (fun W (h:Kept (w.heap.size+2) W4 W)=>HWHO0.out W ((Kept.ofBelow HU4.out).trans h))
 clear HRH0 HRO0 HQU0 HC110 HLK0 HLH0 HLS0 HWHO0
 go_cut [6] from 13 (fun u wx=>∃ y,u=.pointer (some ⟨y,0,none⟩)∧wx.heap[y]?=some (.cells (vs .u8 32 RT) 24)∧Up W4 wx∧W4.heap.size≤y)
 case first =>
  refine wp_region_noPanic ?_
  refine wp_region_held_drew (S:=fun W=>Up W4 W) (by kernel_rfl) ((Below.refl _ _).drew) (fun hHeld=>?_)
  generalize W4.drew=wd at hHeld ⊢
  refine tk 0 (v:=?v901) ?y901 hHeld ?r901
  case y901=>intro w hSw;go_simp;try with_reducible rfl
  refine tk 1 (v:=?v902) ?y902 hHeld ?r902
  case y902=>intro w hSw;have ld0:=HLH.out w hSw;go_simp;try with_reducible rfl
  refine tk 3 (v:=?v903) ?y903 hHeld ?r903
  case y903=>intro w hSw;have ld0:=aAU (upR hSw RD.out);go_simp;try with_reducible rfl
  try simp only [Act.put,z_1,z_2,z_3,z_4,z_5,z_6,z_7]
  refine sh1 (fuel':=?f201) (listed':=?l201) (act:=?a201) (fun (y15:Nat) V=>Up W4 V∧V.heap[y15]?=some (.cells (vs .u8 32 fun _=>0) 24)∧W4.heap.size≤y15) (fun K201=>?m201) ?t201
  case' m201=>skip
  refine sh1 (fuel':=?f200) (listed':=?l200) (act:=?a200) (fun (y15:Nat) V=>Up W4 V∧V.heap[y15]?=some (.cells (vs .u8 32 fun _=>0) 24)∧W4.heap.size≤y15) (fun K200=>?m200) ?t200
  case' m200=>skip
  refine rd2 2 5 (fun K hK=>?_) (fun K hK=>?_)
  ·go_simp
   refine (HRH.out _ (hHeld)).mono ?_
   rintro e' x301 ⟨rfl,hd301⟩
   dsimp only
   have hc301:=upT hHeld hd301
   refine hK.out _ _ hc301 (fun hHeld=>?_)
   clear hK K
   try simp only [Act.put,z_1,z_2,z_3,z_4,z_5,z_6,z_7]
   refine rd2 4 5 (fun K hK=>?_) (fun K hK=>?_)
   ·go_simp
    refine (HRO.out _ (hc301)).mono ?_
    rintro e' x302 ⟨rfl,hd302⟩
    dsimp only
    have hc302:=upT hc301 hd302
    refine hK.out _ _ hc302 (fun hHeld=>?_)
    clear hK K
    try simp only [Act.put,z_1,z_2,z_3,z_4,z_5,z_6,z_7]
    refine rd1 5 (fun K hK=>?_)
    have zr:=aAj
    go_simp
    obtain ⟨x303,y15,hx,ey,r15,hd303,b15⟩:=aD1 hc302 (.cells (vs .u8 32 fun _=>0) 24)
    rw [hx,ey]
    have l303:=Nat.le_of_eq ey
    clear hx ey zr
    have hc303:=upT hc302 hd303
    refine hK.out _ _ hc303 (fun hHeld=>?_)
    clear hK K
    try simp only [Act.put,z_1,z_2,z_3,z_4,z_5,z_6,z_7]
    exact K201.out y15 x303 ⟨hc303,r15,b15⟩
   ·have zr:=aAj
    go_simp
    obtain ⟨x304,y15,hx,ey,r15,hd304,b15⟩:=aD1 hc301 (.cells (vs .u8 32 fun _=>0) 24)
    rw [hx,ey]
    have l304:=Nat.le_of_eq ey
    clear hx ey zr
    have hc304:=upT hc301 hd304
    refine hK.out _ _ hc304 (fun hHeld=>?_)
    clear hK K
    try simp only [Act.put,z_1,z_2,z_3,z_4,z_5,z_6,z_7]
    exact K200.out y15 x304 ⟨hc304,r15,b15⟩
  ·have zr:=aAj
   go_simp
   obtain ⟨x305,y15,hx,ey,r15,hd305,b15⟩:=aD1 hHeld (.cells (vs .u8 32 fun _=>0) 24)
   rw [hx,ey]
   have l305:=Nat.le_of_eq ey
   clear hx ey zr
   have hc305:=upT hHeld hd305
   refine hK.out _ _ hc305 (fun hHeld=>?_)
   clear hK K
   try simp only [Act.put,z_1,z_2,z_3,z_4,z_5,z_6,z_7]
   refine rd1 2 (fun K hK=>?_)
   go_simp
   refine (HRH.out _ (hc305)).mono ?_
   rintro e' x306 ⟨rfl,hd306⟩
   dsimp only
   have hc306:=upT hc305 hd306
   replace r15:=upR hd306 r15
   refine hK.out _ _ hc306 (fun hHeld=>?_)
   clear hK K
   try simp only [Act.put,z_1,z_2,z_3,z_4,z_5,z_6,z_7]
   exact K200.out y15 x306 ⟨hc306,r15,b15⟩
  case t200 =>
   rintro y15 V ⟨hB,r15,b15⟩
   have hHeld:=hB
   refine rd1 4 (fun K hK=>?_)
   go_simp
   refine (HRO.out _ (hB)).mono ?_
   rintro e' x307 ⟨rfl,hd307⟩
   dsimp only
   have hc307:=upT hB hd307
   replace r15:=upR hd307 r15
   refine hK.out _ _ hc307 (fun hHeld=>?_)
   clear hK K
   try simp only [Act.put,z_1,z_2,z_3,z_4,z_5,z_6,z_7]
   exact K201.out y15 x307 ⟨hc307,r15,b15⟩
  case t201 =>
   rintro y15 V ⟨hB,r15,b15⟩
   have hHeld:=hB
   refine rd1 6 (fun K hK=>?_)
   have v3:=aAv r15 RT
   go_simp
   have hce:Up W4 _:=aA6 (hB) b15 (vs .u8 32 RT)
   refine hK.out _ _ hce (fun hHeld=>?_)
   clear hK K
   try simp only [Act.put,z_1,z_2,z_3,z_4,z_5,z_6,z_7]
   refine wpAnyH_done (by kernel_rfl) ?_ _
   refine NoPanic.normal ?_
   go_wp2
   go_meet
   exact ⟨_,rfl,aA4 r15,hce,b15⟩
 case rest =>
  clear HRH HRO HLH
  obtain ⟨y12,rfl,rq,hcw,hyg⟩:=hcut
  have HUC:=hid hcw
  have RQ:=hid rq
  have hb0:=upT HB.out (upT HU4.out HUC.out)
  have HBW:=hid hb0
  have z1:w.heap.size+2 < W4.heap.size:=Nat.lt_of_lt_of_le z0 HU4.out.size
  clear rq hcw hb0
  go_upto_region 3 with fail
  refine wp_region_noPanic ?_
  refine wp_region_held_drew (S:=fun W=>Kept (w.heap.size+2) wc W) (by kernel_rfl) ((Kept.refl _ _).drew) (fun hHeld=>?_)
  have hUd:Up wc wc.drew:=(Below.refl _ _).drew
  generalize wc.drew=wd at hHeld hUd ⊢
  refine tk 0 (v:=?v904) ?y904 hHeld ?r904
  case y904=>intro w hSw;go_simp;try with_reducible rfl
  refine tk 1 (v:=?v905) ?y905 hHeld ?r905
  case y905=>intro w hSw;have ld0:=HC11.out w ((Kept.ofBelow HUC.out).trans hSw);go_simp;try with_reducible rfl
  refine tk 2 (v:=?v906) ?y906 hHeld ?r906
  case y906=>intro w hSw;go_simp;try with_reducible rfl
  refine tk 3 (v:=?v907) ?y907 hHeld ?r907
  case y907=>intro w hSw;go_simp;try with_reducible rfl
  refine tk 4 (v:=?v908) ?y908 hHeld ?r908
  case y908=>intro w hSw;have ld0:=HWHO.out w ((Kept.ofBelow HUC.out).trans hSw);go_simp;try with_reducible rfl
  refine tk 5 (v:=?v909) ?y909 hHeld ?r909
  case y909=>intro w hSw;have ld0:=HIX.out w;go_simp;try with_reducible rfl
  refine tk 6 (v:=?v910) ?y910 hHeld ?r910
  case y910=>intro w hSw;go_simp;try with_reducible rfl
  refine tk 7 (v:=?v911) ?y911 hHeld ?r911
  case y911=>intro w hSw;have ld0:=HLK.out w ((Kept.ofBelow HUC.out).trans hSw);go_simp;try with_reducible rfl
  refine tk 9 (v:=?v912) ?y912 hHeld ?r912
  case y912=>intro w hSw;have ld0:=aAU ((hSw.block y12 (aAe RQ.out) (by omega)).trans RQ.out);go_simp;try with_reducible rfl
  refine tk 10 (v:=?v913) ?y913 hHeld ?r913
  case y913=>intro w hSw;go_simp;try with_reducible rfl
  refine tk 11 (v:=?v914) ?y914 hHeld ?r914
  case y914=>intro w hSw;have ld0:=HLS.out w ((Kept.ofBelow HUC.out).trans hSw);go_simp;try with_reducible rfl
  try simp only [Act.put,z_1,z_2,z_3,z_4,z_5,z_6,z_7]
  refine rd1 8 (fun K hK=>?_)
  have zr:=aHt wd KF
  go_simp
  obtain ⟨x1,y6,hx,ey,r6,hd1,_⟩:=aD1 hUd (.cells (vs .u8 48 KF) 44)
  rw [hx,ey]
  clear hx ey zr
  have hc1:=upT hUd hd1
  refine hK.out _ _ (Kept.ofBelow hc1) (fun hHeld=>?_)
  clear hK K
  try simp only [Act.put,z_1,z_2,z_3,z_4,z_5,z_6,z_7]
  refine rd1 12 (fun K hK=>?_)
  go_simp
  refine (HQU.out _ y6 (upT HUC.out hc1) r6).mono ?_
  rintro e' x2 ⟨rfl,hd2⟩
  dsimp only
  have hc2:=upT hc1 hd2
  refine hK.out _ _ (Kept.ofBelow hc2) (fun hHeld=>?_)
  clear hK K
  try simp only [Act.put,z_1,z_2,z_3,z_4,z_5,z_6,z_7]
  have r2:=upR (upT HU4.out (upT HUC.out hc2)) RR.out
  refine rd1 13 (fun K hK=>?_)
  have v3:=aAv r2 QV
  go_simp
  have hc3:Up w _:=aA6 (upT HBW.out hc2) (by omega:w.heap.size≤w.heap.size+2) (vs .u8 32 QV)
  refine hK.out _ _ ((Kept.ofBelow hc2).setRow _) (fun hHeld=>?_)
  clear hK K
  try simp only [Act.put,z_1,z_2,z_3,z_4,z_5,z_6,z_7]
  refine wpAnyH_done (by kernel_rfl) ?_ _
  refine NoPanic.normal ?_
  go_wp2
  exact aC4 4 (w.heap.size+2) QV 24 rfl rfl rfl (aA4 r2) ⟨rfl,hc3⟩
end
end Go.Proofs.YtdjplhibmomajaaGreatDoor
