/- A part. -/
import Derived.Test.YtdjplhibmomajaaGreatDoorQR
import Derived.Test.YtdjplhibmomajaaGreatDoorPkD
import Derived.Test.YtdjplhibmomajaaGreatDoorQG
import Derived.BigRegion
namespace Go.Proofs.YtdjplhibmomajaaGreatDoor
open Go.RowKit
set_option linter.unusedVariables false
set_option linter.unusedSimpArgs false
set_option maxRecDepth 20000
theorem aTv (w : World) (b off len cap i : Nat) (h : i < len) : (ixU (.slice (some ⟨b, off, none⟩) len cap) (.int .u64 i)).run Tryz.prog w = .ok (.pointer (some ⟨b, off + i, none⟩)) w := by
  unfold ixU Instr.indexAt
  have h1:(0:Int)≤(i:Int)∧(i:Int) < (len:Int):=by omega
  simp only [asIntOf,Sem.run_bind,Sem.run_pure,Result.andThen_ok,run_underlying Tryz.underlying37,if_pos h1,aIQ,Addr.add_mid,Int.toNat_natCast,Nat.mul_one]
theorem aMQ (w : World) (b len cap i : Nat) (h : i < len) : (ixU (.slice (some ⟨b, 0, none⟩) len cap) (.int .u64 i)).run Tryz.prog w = .ok (.pointer (some ⟨b, i, none⟩)) w := by
  have:=aTv w b 0 len cap i h
  rw [Nat.zero_add] at this
  exact this
structure aVl (y g : Nat) (W : World) (X : aA1) : Prop where
  c12:W.cell? ⟨y,722,none⟩=some (.slice (some ⟨g,0,none⟩) X.f12.n X.f12.c)
  row:∃ C,W.heap[g]?=some (.cells C 22)
  at_:∀ k,k < X.f12.n→W.cell? ⟨g,k,none⟩=some (.int .u64 (X.f12.z k))
theorem BK.bl12 {w V : World} {y g : Nat} {X : aA1} (h : BK w y V X) (hg : X.f12.a = some ⟨g, 0, none⟩) : aVl y g V X := by
  have c:=aMz h.row
  rw [hg] at c
  have o:=h.cpd.o12
  rw [hg] at o
  refine ⟨c,(aF7 o).2,fun k hk=>?_⟩
  rcases h.inW.i12 with h0 | ⟨b,off,ea,_,hr⟩
  · omega
  · rw [hg] at ea
    cases ea
    have:=hr k hk
    rw [Nat.zero_add] at this
    exact this
theorem aPS {W : World} {y g : Nat} {C : Array Value} {X : aA1} (h : W.heap[y]? = some (.cells (cel (aA0 X)) 49)) (hr : W.heap[g]? = some (.cells C 22)) : y ≠ g := fun e => by
  subst e
  rw [h] at hr
  injection hr with q
  injection q with _ q2
  exact absurd q2 (by decide)
attribute [local go_sem ↓] aAq aAr aAz aAi aAl aAw aF1
set_option maxHeartbeats 4000000 in
theorem aLm (X : aA1) (i y : Nat) (n : Int) (w V : World) (hb : BK w y V X) (hz : 0 ≤ X.f12.z i ∧ X.f12.z i < 18446744073709551616) (hi : i < X.f12.n) (h0 : 0 ≤ n) (h1 : n < 18446744073709551616) :
    Calls Tryz.prog 57 #[.pointer (some ⟨y,0,none⟩),.int .u64 i,.int .u64 n] V fun e' V'=>e'=.returned (.tuple #[])∧BK w y V' (aHl X i (aHm (X.f12.z i) n))∧∀ g,X.f12.a=some ⟨g,0,none⟩→Kept g V V':=by
  obtain ⟨g,hg⟩:=aCV hb.cpd.o12 (by omega)
  have hbl:=hb.bl12 hg
  obtain ⟨C,hrow⟩:=hbl.row
  have hne:=aPS hb.row hrow
  have hcg:=hbl.at_ i hi
  have hlt:g < V.heap.size:=aAe hrow
  have hc:∀ W,Kept g V W→W.cell? ⟨y,722,none⟩=some (.slice (some ⟨g,0,none⟩) X.f12.n X.f12.c):=fun W h=>(h.cell (aAe hb.row) hne).trans hbl.c12
  have hix:=fun W=>aMQ W g X.f12.n X.f12.c i hi
  have hle:=fun W=>aLg (X.f12.z i) n W hz.1 hz.2 h0 h1
  have hB:∀ T W,Up V W→BK w y (W.setCell ⟨g,i,none⟩ (.int .u64 T)) (aHl X i T):=fun T W h=>(hb.below h).bal T hg hi
  obtain ⟨B,eB⟩:∃ B,X.f12.z i=B:=⟨_,rfl⟩
  rw [eB] at hcg hle ⊢
  obtain ⟨T,eT⟩:∃ T,aHm B n=T:=⟨_,rfl⟩
  rw [eT] at hle ⊢
  have HB:=hid (hB T)
  have HC:=hid hc
  have HG:=hid hcg
  have HIX:=hid hix
  have HLE:=hid hle
  have HLG:=hid hlt
  have HGA:=hid hg
  have HROW:=hid hrow
  clear hb hbl hne hcg hlt hc hix hle hB eB eT hz hrow hg
  go_enter Tryz.func57,Tryz.ntmps57
  refine wp_region_noPanic ?_
  refine wp_region_held_drew (S:=fun W=>Kept g V W) (by kernel_rfl) ((Kept.refl _ _).drew) (fun hHeld=>?_)
  have hUd:Up V V.drew:=(Below.refl _ _).drew
  generalize V.drew=wd at hHeld hUd ⊢
  refine tk 0 (v:=?v501) ?y501 hHeld ?r501
  case y501=>intro w hSw;go_simp;try with_reducible rfl
  refine tk 1 (v:=?v502) ?y502 hHeld ?r502
  case y502=>intro w hSw;go_simp;try with_reducible rfl
  refine tk 2 (v:=?v503) ?y503 hHeld ?r503
  case y503=>intro w hSw;go_simp;try with_reducible rfl
  refine tk 3 (v:=?v504) ?y504 hHeld ?r504
  case y504=>intro w hSw;have ld0:=HC.out w hSw;go_simp;try with_reducible rfl
  refine tk 4 (v:=?v505) ?y505 hHeld ?r505
  case y505=>intro w hSw;go_simp;try with_reducible rfl
  refine tk 5 (v:=?v506) ?y506 hHeld ?r506
  case y506=>intro w hSw;go_simp;try with_reducible rfl
  refine tk 6 (v:=?v507) ?y507 hHeld ?r507
  case y507=>intro w hSw;go_simp;try with_reducible rfl
  refine tk 7 (v:=?v508) ?y508 hHeld ?r508
  case y508=>intro w hSw;go_simp;try with_reducible rfl
  refine tk 8 (v:=?v509) ?y509 hHeld ?r509
  case y509=>intro w hSw;have ld0:=HC.out w hSw;go_simp;try with_reducible rfl
  refine tk 9 (v:=?v510) ?y510 hHeld ?r510
  case y510=>intro w hSw;go_simp;try with_reducible rfl
  refine tk 10 (v:=?v511) ?y511 hHeld ?r511
  case y511=>intro w hSw;have ld0:=HIX.out w;go_simp;try with_reducible rfl
  refine tk 12 (v:=?v512) ?y512 hHeld ?r512
  case y512=>intro w hSw;go_simp;try with_reducible rfl
  try simp only [Act.put,z_1,z_2,z_3,z_4,z_5,z_6,z_7]
  refine rd1 11 (fun K hK=>?_)
  have cg:=(aAk hUd HLG.out).trans HG.out
  go_simp
  refine hK.out _ _ hHeld (fun hHeld=>?_)
  clear hK K cg
  try simp only [Act.put,z_1,z_2,z_3,z_4,z_5,z_6,z_7]
  refine rd1 13 (fun K hK=>?_)
  go_simp
  refine (HLE.out wd).mono ?_
  rintro e' x1 ⟨rfl,hd1⟩
  obtain rfl:=hd1
  dsimp only
  refine hK.out _ _ hHeld (fun hHeld=>?_)
  clear hK K
  try simp only [Act.put,z_1,z_2,z_3,z_4,z_5,z_6,z_7]
  refine tk 14 (v:=?v513) ?y513 hHeld ?r513
  case y513=>intro w hSw;have ld0:=HIX.out w;go_simp;try with_reducible rfl
  try simp only [Act.put,z_1,z_2,z_3,z_4,z_5,z_6,z_7]
  refine rd1 15 (fun K hK=>?_)
  have cg:=(aAk hUd HLG.out).trans HG.out
  have fg:=aAa (upR hUd HROW.out) i
  go_simp
  have hce:Kept g V _:=hHeld.trans ((Kept.refl g x1).setCell i (.int .u64 T))
  refine hK.out _ _ hce (fun hHeld=>?_)
  clear hK K cg fg
  try simp only [Act.put,z_1,z_2,z_3,z_4,z_5,z_6,z_7]
  refine wpAnyH_done (by kernel_rfl) ?_ _
  refine NoPanic.normal ?_
  go_end0
  refine ⟨rfl,?_,fun g' e=>?_⟩
  · exact HB.out _ hUd
  · rw [HGA.out] at e
    cases e
    exact hHeld
set_option maxHeartbeats 2000000 in
theorem aLc (X : aA1) (i y : Nat) (n : Int) (w V : World) (hb : BK w y V X) (hi : i < X.f12.n) :
    Calls Tryz.prog 59 #[.pointer (some ⟨y,0,none⟩),.int .u64 i,.int .u64 n] V fun e' V'=>e'=.returned (.tuple #[])∧BK w y V' (aHl X i (w64 (X.f12.z i+n)))∧∀ g,X.f12.a=some ⟨g,0,none⟩→Kept g V V':=by
  obtain ⟨g,hg⟩:=aCV hb.cpd.o12 (by omega)
  have hbl:=hb.bl12 hg
  obtain ⟨C,hrow⟩:=hbl.row
  have c0:=hbl.c12
  have cg:=hbl.at_ i hi
  have fg:=aAa hrow i
  have hix:=fun W=>aMQ W g X.f12.n X.f12.c i hi
  have HB:=hid (hb.bal (w64 (X.f12.z i+n)) hg hi)
  have HGA:=hid hg
  have kw:IntKind.u64.wrap (X.f12.z i+n)=w64 (X.f12.z i+n):=rfl
  clear hb hbl hrow hg
  go_enter Tryz.func59,Tryz.ntmps59
  go_wp2
  go_end0
  exact ⟨rfl,HB.out,fun g' e=>by rw [HGA.out] at e;cases e;exact (Kept.refl g V).setCell _ _⟩
theorem BK.res {w V:World} {y:Nat} {Y:aA1} (h:BK w y V Y):Res w.heap.size V Y Y:=⟨.refl _,h.inW,h.cpd.nil,h.cpd.nw⟩
theorem aQs {w : World} {b : Nat} {C : Array Value} {t : TypeId} (h : w.heap[b]? = some (.cells C t)) (o : Nat) (v : aA5) (hn : o + 86 ≤ C.size) : (aE3 ⟨b, o, none⟩ (.agg (cel (aA3 v)))).run Tryz.prog w = .ok () (w.setCells b o (aAW (aA3 v))) :=
  run_storeVar_mid (P:=Tryz.prog) w b o 65 (cel (aA3 v)) (by rw [aAT];exact aHj h o 86 hn) (by rw [aAT];kernel_rfl) (aEo _)
theorem aLw {w : World} {b p : Nat} {t : TypeId} {v v' : aA5} {u : Value} (h : w.heap[b]? = some (.cells (cel (aA3 v)) t)) (e : (aAW (aA3 v)).set p u = aAW (aA3 v')) : (w.setCell ⟨b, p, none⟩ u).heap[b]? = some (.cells (cel (aA3 v')) t) := by
  rw [aAI h p u]
  unfold cel
  rw [List.setIfInBounds_toArray,e]
theorem aPH {w : World} {B k g n cap : Nat} {t : TypeId} {xs : List Value} (h : w.ownsRow B t k (.slice (some ⟨g, 0, none⟩) n cap) n xs) : ∃ C, w.heap[g]? = some (.cells C t) ∧ n * k ≤ C.size := by
  rcases h.2 with ⟨e,_⟩ | ⟨g',cap',cur,e,h1,h2,h3,h4,h5,h6⟩
  · cases e
  · cases e
    exact ⟨cur,h2,by rw [h5];exact Nat.mul_le_mul_right _ h3⟩
set_option maxHeartbeats 8000000 in
theorem aGa (X : aA1) (i y : Nat) (w V : World) (hb : BK w y V X) (hR : Rg X) (hi : i < X.f11.n) (hC : Tab w 1 64 KW) (hyc : 1 ≠ y) :
    Calls Tryz.prog 28 #[.pointer (some ⟨y,0,none⟩),.int .u64 i] V fun e' V'=>e'=.returned (.int .i64 (slE X i))∧BK w y V' (slS X i):=by
  have hep:=aD6 X V hR.ok.o2.1 hR.sl
  have ld:=aAg hb.row
  have h2:=hR.ok.o2.1
  have h2':=hR.sl
  obtain ⟨E,eE⟩:∃ E,X.f2 / 4=E:=⟨_,rfl⟩
  have hE0:0≤E:=by omega
  have hE1:E < 274877906944:=by omega
  rw [eE] at hep
  have EE:=hid eE
  have HEP:=hid hep
  have HB:=hid hb
  have HR:=hid hR
  have HI:=hid hi
  have HTC:=hid hC
  have k8:IntKind.u64.wrap (E+8)=E+8:=by rw [IntKind.wrap_u64];omega
  clear hep hb hR hi hC eE h2 h2'
  go_enter Tryz.func28,Tryz.ntmps28
  go_upto_region 2 with (go_at_call 22;refine HEP.out.mono ?_;rintro e' w1 ⟨rfl,hb1⟩)
  have HLV:=hid (aH0 X i y w w1 (HB.out.below hb1) HR.out HI.out)
  clear hb1 ld HB HEP
  go_upto_region 3 with (go_at_call 56;refine HLV.out.mono ?_;rintro e' w2 ⟨rfl,hb2⟩)
  clear HLV
  have hRY:=HR.out.lv i
  have hiY:i < (lvS X i).f11.n:=by rw [(aKI X i).2.2.1];exact HI.out
  have hA:slA X i=aDF (lvS X i) i (slV E):=by rw [←EE.out];rfl
  obtain ⟨Y,eY⟩:∃ Y,lvS X i=Y:=⟨_,rfl⟩
  rw [eY] at hb2 hRY hiY hA
  obtain ⟨g,hg⟩:=aCV hb2.cpd.o11 (by omega)
  have hvl:=hb2.vl hg
  have c0:=hvl.c11
  obtain ⟨v,ev⟩:∃ v,Y.f11.z i=v:=⟨_,rfl⟩
  have lv:=aB2 (hvl.at_ i hiY)
  rw [ev] at lv
  have ix:=fun W=>aMR W g Y.f11.n Y.f11.c i hiY
  obtain ⟨W3,hW3⟩:∃ W,w2.alloc (.cells (cel (aA3 v)) 65)=W:=⟨_,rfl⟩
  have sv:=aBj w2 aBe v
  rw [hW3] at sv
  have zv:=aBP
  have r3:W3.heap[w2.heap.size]?=some (.cells (cel (aA3 v)) 65):=by rw [←hW3];exact aA2 rfl
  have hU3:Up w2 W3:=by rw [←hW3];exact (Below.refl _ _).alloc (Nat.le_refl _) _
  obtain ⟨b,eb⟩:∃ b,w2.heap.size=b:=⟨_,rfl⟩
  rw [eb] at r3 sv
  have hbg : b ≠ g := by
    obtain ⟨C,hrc⟩:=hvl.row
    have:=aAe hrc
    omega
  have HB2:=hid hb2
  have HG:=hid hg
  have HRY:=hid hRY
  have HIY:=hid hiY
  have HA:=hid hA
  have EV:=hid ev
  have EB:=hid eb
  have HU3:=hid hU3
  have R3:=hid r3
  have EY:=hid eY
  have HIX:=hid ix
  clear hb2 hRY hiY hA eY hg hvl ev hW3 r3 hU3
  go_upto_region 4 with fail
  clear sv lv c0 zv eb ix
  have c81:=aEF R3.out 3 v.f3 rfl 81 rfl
  have f81:=aAa R3.out 81
  have r4:=aLw R3.out (aJ0 v true)
  have u4:Up w2 (W3.setCell ⟨b,81,none⟩ (.bool true)):=HU3.out.trans (((Kept.refl b W3).setCell 81 (.bool true)).below (Nat.le_of_eq EB.out) HU3.out.size)
  have R4:=hid r4
  have U4:=hid u4
  clear r4 u4
  go_upto_region 5 with fail
  obtain ⟨W4,hW4⟩:∃ W,W3.setCell ⟨b,81,none⟩ (.bool true)=W:=⟨_,rfl⟩
  rw [hW4] at R4 U4 ⊢
  clear hW4 c81 f81 R3 HU3
  obtain ⟨F,eF⟩:∃ F,v.f2=F:=⟨_,rfl⟩
  have hsl:(slV E v).f2=F:=eF
  have hF0:=(HRY.out.ef i HIY.out)
  rw [EV.out,eF] at hF0
  have HF:=hid hF0
  have HSL:=hid hsl
  have EFF:Hid (aJ9 X i=F):=by unfold Hid aJ9;rw [←eF,←EV.out,←EY.out,aFV]
  have c85:=aAH R4.out 7 v.f7 rfl 85 rfl
  have f85:=aAa R4.out 85
  have hvd:slV E v={ v with f3:=true,f7:=if v.f7 < E+8 then E+8 else v.f7 }:=rfl
  have HVD:=hid hvd
  clear hF0 hsl hvd eF
  obtain ⟨f7,e7⟩:∃ f,v.f7=f:=⟨_,rfl⟩
  rw [e7] at c85 HVD
  go_upto_if 28 with fail
  go_cut [] from 9 (fun wx=>wx.heap[b]?=some (.cells (cel (aA3 (slV E v))) 65)∧Up w2 wx)
  case first =>
    by_cases hq:f7 < E+8
    · have r5:=aLw (v:={ v with f3:=true }) R4.out (aEm _ (E+8))
      have hv5:=HVD.out
      rw [if_pos hq] at hv5
      have u5:Up w2 (W4.setCell ⟨b,85,none⟩ (.int .u64 (E+8))):=U4.out.trans (((Kept.refl b W4).setCell 85 (.int .u64 (E+8))).below (Nat.le_of_eq EB.out) U4.out.size)
      have R5:=hid r5
      have U5:=hid u5
      have HV5:=hid hv5
      clear r5 u5 hv5
      go_wp2
      go_meet
      exact ⟨by rw [HV5.out];exact R5.out,U5.out⟩
    · have hv5:=HVD.out
      rw [if_neg hq,←e7] at hv5
      have HV5:=hid hv5
      clear hv5
      go_wp2
      go_meet
      exact ⟨by rw [HV5.out];exact R4.out,U4.out⟩
  case rest =>
    obtain ⟨r6,u6⟩:=hcut
    clear c85 f85 R4 U4 HVD
    obtain ⟨v6,e6⟩:∃ u,slV E v=u:=⟨_,rfl⟩
    rw [e6] at r6 HSL
    have hb6:=(HB2.out.below u6).drew
    have r6d:wc.drew.heap[b]?=some (.cells (cel (aA3 v6)) 65):=r6
    have c0:=((HB2.out.below u6).vl HG.out).c11
    have hv6:=hb6.vl HG.out
    have lv:=aDy r6d
    have o6:=hb6.cpd.o11
    rw [HG.out] at o6
    obtain ⟨C6,hr6,hs6⟩:=aPH o6
    have sv := aQs hr6 (86 * i) v6 (by have : i * 86 + 86 ≤ Y.f11.n * 86 := by (rw [← Nat.succ_mul]; exact Nat.mul_le_mul_right _ HIY.out)
                                       omega)
    have ix:=HIX.out
    have hb7:=hb6.valW v6 HG.out HIY.out
    have eA7:aDF Y i (fun _=>v6)=slA X i:=by rw [HA.out,←e6,←EV.out];rfl
    rw [eA7] at hb7
    have r7:=((aBk (aAW (aA3 v6)) (86*i) (Kept.refl g wc.drew)).block b (aAe r6d) hbg).trans r6d
    have HB7:=hid hb7
    have R7:=hid r7
    clear hb6 hv6 o6 hr6 hs6 hb7 r7 r6 r6d u6 eA7 e6
    go_upto_region 7 with fail
    go_region
    obtain ⟨W7,hW7⟩:∃ W,wc.drew.setCells g (86*i) (aAW (aA3 v6))=W:=⟨_,rfl⟩
    replace HB7:Hid (BK w y W7 (slA X i)):=by rw [←hW7];exact HB7.out
    replace R7:Hid (W7.heap[b]?=some (.cells (cel (aA3 v6)) 65)):=by rw [←hW7];exact R7.out
    rw [hW7]
    clear hW7 sv lv c0 ix HB2 HG HIX
    obtain ⟨J,hJ,eJ⟩:∃ J:Nat,J < 8∧E % 8=(J:Int):=⟨(E % 8).toNat,by omega,by omega⟩
    have hBd : slB X i = s14 (slA X i) J (w64 ((slA X i).f14 J + F)) := by
      have:(X.f2 / 4 % 8).toNat=J:=by rw [EE.out,eJ];rfl
      unfold slB
      rw [this,EFF.out]
    have c14:=aV3 HB7.out.row J hJ
    have f14:=aAa HB7.out.row (979+J)
    have c80:=aAH R7.out 2 v6.f2 rfl 80 rfl
    rw [HSL.out] at c80
    have j1:(J:Int) < 8:=by omega
    have j0:(0:Int)≤(J:Int):=by omega
    obtain ⟨S,eS⟩:∃ S,(slA X i).f14 J=S:=⟨_,rfl⟩
    rw [eS] at c14 hBd
    have kw:IntKind.u64.wrap (S+F)=w64 (S+F):=rfl
    have hb8:=HB7.out.sla (w64 (S+F)) hJ
    rw [←hBd] at hb8
    have hby:b≠y:=aG9 R7.out HB7.out.row (by decide)
    have HB8:=hid hb8
    have R8:=hid ((aAK (i:=979+J) (v:=.int .u64 (w64 (S+F))) hby).trans R7.out)
    clear hb8 eS hBd
    go_upto_region 8 with fail
    go_region
    obtain ⟨W8,hW8⟩:∃ W,(W7.setCell ⟨y,979+J,none⟩ (.int .u64 (w64 (S+F)))).drew=W:=⟨_,rfl⟩
    replace HB8:Hid (BK w y W8 (slB X i)):=by rw [←hW8];exact HB8.out.drew
    replace R8:Hid (W8.heap[b]?=some (.cells (cel (aA3 v6)) 65)):=by rw [←hW8];exact R8.out
    rw [hW8]
    clear hW8 c14 f14 c80 j0 j1 kw eJ HB7 R7
    have hRB:=HR.out.b i
    have hi12 : i < (slB X i).f12.n := by
      have e1:=hRB.ln
      have e2:(slB X i).f11.n=X.f11.n:=(aFr X i).2.2.1
      have:=HI.out
      omega
    have c80:=aAH R8.out 2 v6.f2 rfl 80 rfl
    rw [HSL.out] at c80
    have f0:=HF.out.1
    have f1:=HF.out.2
    have kt:F.tdiv 64=F / 64:=Int.tdiv_eq_ediv_of_nonneg f0
    have kq:IntKind.u64.wrap (F / 64)=F / 64:=by rw [IntKind.wrap_u64];omega
    have hta:=aLm (slB X i) i y (F / 64) w W8 HB8.out (hRB.ok.o12 i hi12) hi12 (by omega) (by omega)
    have hCd:slC X i=aHl (slB X i) i (aHm ((slB X i).f12.z i) (F / 64)):=by unfold slC;rw [EFF.out]
    rw [←hCd] at hta
    obtain ⟨g2,hg2⟩:=aCV HB8.out.cpd.o12 (by omega)
    obtain ⟨C2,hr2⟩:=(HB8.out.bl12 hg2).row
    have hb2:b≠g2:=aG9 R8.out hr2 (by decide)
    have HTA:=hid hta
    have HG2:=hid hg2
    clear hta hg2 hr2 hCd
    go_upto_region 10 with (go_at_call 57;refine HTA.out.mono ?_;rintro e' w9 ⟨rfl,hb9,hk9⟩)
    have r9:=((hk9 g2 HG2.out).block b (aAe R8.out) hb2).trans R8.out
    have ld:=aAg hb9.row
    have hRC:=HR.out.c i HI.out
    have hpr:=aLj (slC X i) w9 hRC.ok (hRC.lk hb9.inW) (hb9.kep.tab HTC.out hyc)
    have hSE:slE X i=prE (slC X i):=rfl
    have hSS:slS X i=if prE (slC X i)=0 then aHl (slC X i) (prV (slC X i)).toNat (w64 ((slC X i).f12.z (prV (slC X i)).toNat+F / 512)) else slC X i:=by unfold slS slE slP;rw [EFF.out]
    have hin : prE (slC X i) = 0 → ∃ p : Nat, prV (slC X i) = (p : Int) ∧ p < (slC X i).f12.n := fun h => by
      obtain ⟨p,h1,h2⟩:=aPL h
      exact ⟨p,h1,by have:=hRC.ln;omega⟩
    obtain ⟨PE,ePE⟩:∃ e,prE (slC X i)=e:=⟨_,rfl⟩
    obtain ⟨PV,ePV⟩:∃ e,prV (slC X i)=e:=⟨_,rfl⟩
    rw [ePE] at hSE hSS hin
    rw [ePV] at hSS hin
    rw [ePE,ePV] at hpr
    have HPR:=hid hpr
    have HSE:=hid hSE
    have HSS:=hid hSS
    have HIN:=hid hin
    have HB9:=hid hb9
    have R9:=hid r9
    clear hpr hSE hSS hin hb9 hk9 r9 HTA HB8 R8 c80 kt kq ePE ePV hRC hRB
    go_upto_region 11 with (go_at_call 58;refine HPR.out.mono ?_;rintro e' w10 ⟨rfl,hb10⟩)
    have HB10:=hid (HB9.out.below hb10)
    have r10:=upR hb10 R9.out
    have c80:=aAH r10 2 v6.f2 rfl 80 rfl
    rw [HSL.out] at c80
    clear hb10 HB9 R9 ld HPR r10
    by_cases hp:PE=0
    · subst hp
      obtain ⟨p,rfl,hp12⟩:=HIN.out rfl
      have kt:F.tdiv 512=F / 512:=Int.tdiv_eq_ediv_of_nonneg f0
      have kq:IntKind.u64.wrap (F / 512)=F / 512:=by rw [IntKind.wrap_u64];omega
      have hgi:=aLc (slC X i) p y (F / 512) w w10 HB10.out hp12
      have HGI:=hid hgi
      clear hgi hp12
      go_upto_region 14 with (go_at_call 59;refine HGI.out.mono ?_;rintro e' w11 ⟨rfl,hb11,hk11⟩)
      have HB11:=hid hb11
      clear hb11 hk11
      go_wp2
      go_ret
      refine ⟨aB9 HSE.out.symm,?_⟩
      rw [HSS.out]
      simp only [if_true]
      exact HB11.out
    · have hp2:(PE != 0)=true:=by simp [hp]
      go_wp2
      go_ret
      refine ⟨aB9 HSE.out.symm,?_⟩
      rw [HSS.out,if_neg hp]
      exact HB10.out
end Go.Proofs.YtdjplhibmomajaaGreatDoor
