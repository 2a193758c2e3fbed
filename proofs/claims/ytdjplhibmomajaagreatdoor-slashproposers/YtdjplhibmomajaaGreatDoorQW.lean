/- A part. -/
import Derived.Test.YtdjplhibmomajaaGreatDoorCoA
import Derived.Test.YtdjplhibmomajaaGreatDoorQO
import Derived.Test.YtdjplhibmomajaaGreatDoorQE
import Derived.Test.YtdjplhibmomajaaGreatDoorQP
import Derived.Test.YtdjplhibmomajaaGreatDoorQR
import Derived.Test.YtdjplhibmomajaaGreatDoorTrHeader
import Derived.Test.YtdjplhibmomajaaGreatDoorQA
import Derived.ChangeSlices
import Derived.ChangeArms
import Derived.ChangeOld
import Derived.SizedLaws
namespace Go.Proofs.YtdjplhibmomajaaGreatDoor
open Go.RowKit
set_option linter.unusedVariables false
set_option linter.unusedSimpArgs false
section
open Go.RowKit
set_option linter.unusedVariables false
set_option linter.unusedSimpArgs false
set_option maxRecDepth 20000
structure aA7 where
 f0:aAM
 f1:aAM
def aAd (x:aA7):List Seg:=aAf x.f0++aAf x.f1
def aBs (x:aA7):Prop:=aCu x.f0∧aCu x.f1
def aEj (a:Addr) (v:Value):Sem Unit:=storeVar 55 a v
theorem aDE (a:Addr) (v:Value):storeVar 55 a v=aEj a v:=rfl
def aE4 (ps:Array (Nat × Value)):Sem Value:=Instr.build 55 ps
theorem aDr (ps:Array (Nat × Value)):Instr.build 55 ps=aE4 ps:=rfl
attribute [local go_sem ↓] aC8 aAY
end
section
open Go.RowKit
set_option linter.unusedVariables false
set_option linter.unusedSimpArgs false
def psP (x:aA1) (s:aA7):Int :=
 if aAN x=true then
  if s.f0.f0.f0=s.f1.f0.f0 then
   if s.f0.f0.f1=s.f1.f0.f1 then
    if eqH s.f0.f0 s.f1.f0=true then 26
    else if s.f0.f0.f1 < (x.f11.n:Int) then
     if aMn (x.f11.z s.f0.f0.f1.toNat) (x.f2 / 4)=true then 0 else 24
    else 27
   else 27
  else 20
 else 1
def psK (x:aA1) (s:aA7) (f:Nat→Int) (n:Nat):Nat:=if psP x s=0 then (if gdB (hqV x s.f0) f n=true then 2 else 1) else 0
def psQ (x:aA1) (s:aA7) (j:Nat):Int:=if j < 32 then hqV x s.f0 j else hqV x s.f1 (j - 32)
def psE (x:aA1) (s:aA7) (f:Nat→Int) (n:Nat):Int:=if psP x s=0 then (if gdB (hqV x s.f0) f n=true∧gdB (hqV x s.f1) f n=true then sqE x s.f0.f0.f1 else 25) else psP x s
def psS (x:aA1) (s:aA7) (f:Nat→Int) (n:Nat):aA1:=if psE x s f n=0 then sqS x s.f0.f0.f1 else aAn
theorem aEY {x X:aA1} (h:aBQ x X) (s:aAM):hqV X s=hqV x s:=by
 unfold hqV aEK
 rw [h.z11,h.e3,h.e1]
theorem aL2 {x X:aA1} (h:aBQ x X) (s:aA7):psP X s=psP x s:=by
 unfold psP
 rw [aFB h,h.l11,h.z11,h.e2]
theorem aPM {x X:aA1} (h:aBQ x X) (s:aA7) (f:Nat→Int) (n:Nat):psK X s f n=psK x s f n:=by
 unfold psK
 rw [aL2 h,aEY h]
theorem aPN {x X:aA1} (h:aBQ x X) (s:aA7):psQ X s=psQ x s:=funext fun j=>by
 unfold psQ
 rw [aEY h,aEY h]
theorem aSc (x:aA1) (s:aA7) (f:Nat→Int) (n:Nat):psK x s f n≤2:=by
 unfold psK
 split
 ·split<;>omega
 ·omega
def PsA (x:aA1) (s:aA7) (f:Nat→Int) (n:Nat) (w:World) (e':Ending) (w':World):Prop :=
 ∃ X a c,e'=.returned (.tuple #[.agg (cel (aA0 X)),.slice a (psK x s f n) c,.int .i64 (psE x s f n)])∧Res w.heap.size w' (psS x s f n) X∧Rts w' a (psK x s f n) c (psQ x s)∧NwL w.heap.size a (psK x s f n)∧Below w.heap.size w w'
theorem aOA {x:aA1} {s:aA7} (h:psP x s=0) (h0:0≤s.f0.f0.f1):aAN x=true∧s.f0.f0.f0=s.f1.f0.f0∧s.f0.f0.f1=s.f1.f0.f1∧eqH s.f0.f0 s.f1.f0=false∧∃ k:Nat,s.f0.f0.f1=(k:Int)∧k < x.f11.n∧aMn (x.f11.z k) (x.f2 / 4)=true:=by
 unfold psP at h
 by_cases h1:aAN x=true
 ·rw [if_pos h1] at h
  by_cases h2:s.f0.f0.f0=s.f1.f0.f0
  ·rw [if_pos h2] at h
   by_cases h3:s.f0.f0.f1=s.f1.f0.f1
   ·rw [if_pos h3] at h
    by_cases h4:eqH s.f0.f0 s.f1.f0=true
    ·rw [if_pos h4] at h;omega
    ·rw [if_neg h4] at h
     by_cases h5:s.f0.f0.f1 < (x.f11.n:Int)
     ·rw [if_pos h5] at h
      by_cases h6:aMn (x.f11.z s.f0.f0.f1.toNat) (x.f2 / 4)=true
      ·exact ⟨h1,h2,h3,by simpa using h4,s.f0.f0.f1.toNat,by omega,by omega,h6⟩
      ·rw [if_neg h6] at h;omega
     ·rw [if_neg h5] at h;omega
   ·rw [if_neg h3] at h;omega
  ·rw [if_neg h2] at h;omega
 ·rw [if_neg h1] at h;omega
end
section
open Go.RowKit
set_option linter.unusedVariables false
set_option linter.unusedSimpArgs false
set_option maxRecDepth 20000
def aBW (a:Addr):Sem Value:=loadVar 55 a
theorem aCy (a:Addr):loadVar 55 a=aBW a:=rfl
theorem aDo {w:World} {g:Nat} {C:Array Value} {t:TypeId} {x:aA7} (h:w.heap[g]?=some (.cells C t)) (o:Nat) (hl:(C.toList.drop o).take (aAW (aAd x)).length=aAW (aAd x)) (hs:aCa (aAd x)=388):(aBW ⟨g,o,none⟩).run Tryz.prog w=.ok (.agg (cel (aAd x))) w :=
 aAP (run_loadAt_mid w g o 55 _ _ (aD7 h hl) Tryz.underlying55 rfl (by rw [aAC,hs];kernel_rfl))
attribute [local go_sem ↓] aCU aAY aB4 aCy aDE aDr
end
section
open Go.RowKit
set_option linter.unusedVariables false
set_option linter.unusedSimpArgs false
end
section
open Go.RowKit
set_option linter.unusedVariables false
set_option linter.unusedSimpArgs false
end
section
open Go.RowKit
set_option linter.unusedVariables false
set_option linter.unusedSimpArgs false
end
section
open Go.RowKit
set_option linter.unusedVariables false
set_option linter.unusedSimpArgs false
set_option maxRecDepth 100000 in
theorem aJk {H : Type} {enc : TypeId × Value → H} {w : World} {b0 fuel : Nat} {sp : Nat → Bool} {held : Bool} {cs : List Value} {y : DataW H × List MemPlace}
    (hsl:cs.length=98) (h:DataW.trod enc Tryz.prog w b0 sp held fuel 30 cs=some y):∃ x:aB6,cs=aAW (aAm x)∧aBV x:=by
 obtain ⟨xs,n,_,_,_,hxl,hat⟩:=DataW.trod_struct Tryz.underlying30 h
 have hx:xs.length=5:=hxl
 have h0:=hat 0 _ rfl
 rw [List.getElem?_eq_getElem (by omega)] at h0
 have c0:Tryz.prog.cellsOf 22=1:=by kernel_rfl
 replace h0:DataW.trod enc Tryz.prog w b0 sp held n 22 ((cs.drop 0).take (Tryz.prog.cellsOf 22))=some xs[0]:=h0
 rw [c0] at h0
 obtain ⟨f0,e0,_,w0⟩:=DataW.trod_int Tryz.underlying22 h0
 have k0:=bounds_u64 w0
 have h1:=hat 1 _ rfl
 rw [List.getElem?_eq_getElem (by omega)] at h1
 have c1:Tryz.prog.cellsOf 22=1:=by kernel_rfl
 replace h1:DataW.trod enc Tryz.prog w b0 sp held n 22 ((cs.drop 1).take (Tryz.prog.cellsOf 22))=some xs[1]:=h1
 rw [c1] at h1
 obtain ⟨f1,e1,_,w1⟩:=DataW.trod_int Tryz.underlying22 h1
 have k1:=bounds_u64 w1
 have h2:=hat 2 _ rfl
 rw [List.getElem?_eq_getElem (by omega)] at h2
 have c2:Tryz.prog.cellsOf 24=32:=by kernel_rfl
 replace h2:DataW.trod enc Tryz.prog w b0 sp held n 24 ((cs.drop 2).take (Tryz.prog.cellsOf 24))=some xs[2]:=h2
 rw [c2] at h2
 obtain ⟨f2,e2,k2⟩:=aCi Tryz.underlying24 Tryz.underlying5 (by kernel_rfl) (by rw [List.length_take,List.length_drop,hsl];rfl) h2
 have h3:=hat 3 _ rfl
 rw [List.getElem?_eq_getElem (by omega)] at h3
 have c3:Tryz.prog.cellsOf 24=32:=by kernel_rfl
 replace h3:DataW.trod enc Tryz.prog w b0 sp held n 24 ((cs.drop 34).take (Tryz.prog.cellsOf 24))=some xs[3]:=h3
 rw [c3] at h3
 obtain ⟨f3,e3,k3⟩:=aCi Tryz.underlying24 Tryz.underlying5 (by kernel_rfl) (by rw [List.length_take,List.length_drop,hsl];rfl) h3
 have h4:=hat 4 _ rfl
 rw [List.getElem?_eq_getElem (by omega)] at h4
 have c4:Tryz.prog.cellsOf 24=32:=by kernel_rfl
 replace h4:DataW.trod enc Tryz.prog w b0 sp held n 24 ((cs.drop 66).take (Tryz.prog.cellsOf 24))=some xs[4]:=h4
 rw [c4] at h4
 obtain ⟨f4,e4,k4⟩:=aCi Tryz.underlying24 Tryz.underlying5 (by kernel_rfl) (by rw [List.length_take,List.length_drop,hsl];rfl) h4
 have el:cs.drop 0=(cs.drop 0).take 1++((cs.drop 1).take 1++((cs.drop 2).take 32++((cs.drop 34).take 32++((cs.drop 66).take 32++([]))))):=((aAy cs 0 1).trans (congrArg _ ((aAy cs 1 1).trans (congrArg _ ((aAy cs 2 32).trans (congrArg _ ((aAy cs 34 32).trans (congrArg _ ((aAy cs 66 32).trans (congrArg _ (List.drop_eq_nil_of_le (by rw [hsl];exact Nat.le_refl _))))))))))))
 rw [e0,e1,e2,e3,e4] at el
 refine ⟨⟨f0,f1,f2,f3,f4⟩,?_,⟨k0.1,Int.lt_of_le_of_lt k0.2 (by decide)⟩,⟨k1.1,Int.lt_of_le_of_lt k1.2 (by decide)⟩,k2,k3,k4⟩
 exact el
end
section
open Go.RowKit Go.ChangeShapes Go.WideShapes
set_option linter.unusedVariables false
set_option linter.unusedSimpArgs false
def aNR {H:Type} (d:DataW H) (cap:Nat):Prop:=d=.nil∧cap=0∨∃ el sp,d=.slice el sp∧el.length+sp.length=cap
theorem aHB {H : Type} {ts : List TypeId} {ds : List (DataW H)} (h : (DataW.weightsEach Tryz.prog ts ds).all (· ≤ reachBytes) = true) {j : Nat} {t e : TypeId} {d : DataW H} {cap : Nat} (ht : ts[j]? = some t) (hd : ds[j]? = some d) (hu : Tryz.prog.underlying t = some (.slice e)) (hc : aNR d cap) :
    cap*Tryz.prog.bytesOf e≤140737488351232:=by
 rcases hc with ⟨_,rfl⟩ | ⟨el,sp,rfl,rfl⟩
 ·simp
 ·exact sized_slice h ht hd hu
theorem aLA {w:World} {x:Addr} {v:Value} (h:w.cell? (x.add 0)=some v):∃ b off,x=⟨b,off,none⟩:=by
 obtain ⟨b,off,spot⟩:=x
 have hs:spot=none:=by
  have:=World.cell?_spot h
  simpa [Addr.add] using this
 subst hs
 exact ⟨b,off,rfl⟩
theorem aFz {H : Type} {enc : TypeId × Value → H} {W : World} {base n : Nat} {held : Bool} {sp : Nat → Bool} {x : Addr} {y : DataW H × List MemPlace} (h : (W.cells? base x (Tryz.prog.cellsOf 24)).bind (DataW.trod enc Tryz.prog W base sp held n 24) = some y) :
    ∀ j,j < 32→∃ z,W.cell? (x.add j)=some (.int .u8 z)∧0≤z∧z < 256:=by
 have hce:Tryz.prog.cellsOf 5=1:=by kernel_rfl
 have hct:Tryz.prog.cellsOf 24=32:=by kernel_rfl
 rw [Option.bind_eq_some_iff] at h
 obtain ⟨cs,hcs,ht⟩:=h
 obtain ⟨xs,m,rfl,_,hl,hxl,hat⟩:=DataW.trod_array Tryz.underlying24 ht
 intro j hj
 have ha:=hat j hj
 rw [List.getElem?_eq_getElem (by omega)] at ha
 obtain ⟨z,hc,_,hwf⟩:=DataW.trod_int Tryz.underlying5 ha
 have hcj:cs[j]?=some (.int .u8 z):=by
  have:=congrArg (·[0]?) hc
  simpa [hce,List.getElem?_take,List.getElem?_drop,Value.cells] using this
 have hb:=bounds_u8 hwf
 refine ⟨z,?_,by omega,by omega⟩
 rw [(World.cells?_some hcs).2.2 j (by rw [hct];exact hj)]
 exact hcj
theorem aJj {H : Type} {enc : TypeId × Value → H} {W : World} {base : Nat} {held : Bool} {a : Option Addr} {len cap : Nat} {d : DataW H} {ps : List MemPlace} (h : DataW.Trod enc Tryz.prog W base (fun _ => true) held 32 (.slice a len cap) d ps) :
    ∃ f:Nat→Int,Rts W a len cap f∧ByB f (32*len)∧len≤cap∧aNR d cap:=by
 obtain ⟨fuel,hf⟩:=h
 have hct:Tryz.prog.cellsOf 24=32:=by kernel_rfl
 rcases DataW.trod_slice Tryz.underlying32 hf with ⟨hcs,hx⟩ | ⟨x,l,c,el,rest,n,rfl,hcs,hx,hbs,hl,hm,hel,hat,hsp,_⟩
 ·simp [Value.cells] at hcs
  obtain ⟨rfl,rfl,rfl⟩:=hcs
  simp only [Prod.mk.injEq] at hx
  exact ⟨fun _=>0,.inl ⟨rfl,rfl,rfl⟩,fun q hq=>by omega,Nat.le_refl _,.inl ⟨hx.1,rfl⟩⟩
 ·simp [Value.cells] at hcs
  obtain ⟨rfl,rfl,rfl⟩:=hcs
  simp only [Prod.mk.injEq] at hx
  have hr:=(hsp rfl).1
  have hspot:0 < len→∃ b off,x=⟨b,off,none⟩:=by
   intro h0
   have h1:=hat 0 h0
   rw [List.getElem?_eq_getElem (by omega)] at h1
   obtain ⟨z,hz,_⟩:=aFz h1 0 (by omega)
   obtain ⟨b,off,spot⟩:=x
   have hs:spot=none:=by
    have:=World.cell?_spot hz
    simpa [Addr.add] using this
   subst hs
   exact ⟨b,off,rfl⟩
  have key:∀ q,q < 32*len→∃ z,W.cell? (x.add q)=some (.int .u8 z)∧0≤z∧z < 256:=by
   intro q hq
   have h1:=hat (q / 32) (by omega)
   rw [List.getElem?_eq_getElem (by omega)] at h1
   obtain ⟨z,hz,hb⟩:=aFz h1 (q % 32) (by omega)
   rw [hct] at hz
   refine ⟨z,?_,hb⟩
   obtain ⟨b,off,rfl⟩:=hspot (by omega)
   rw [addr_add,addr_add] at hz
   rw [addr_add]
   rw [show off+q / 32*32+q % 32=off+q by omega] at hz
   exact hz
  refine ⟨fun q=>match W.cell? (x.add q) with | some (.int _ z)=>z | _=>0,?_,fun q hq=>?_,hl,.inr ⟨_,_,hx.1,by simp;omega⟩⟩
  ·by_cases h0:len=0
   ·exact .inr (.inl ⟨x,rfl,h0⟩)
   ·obtain ⟨z0,hz0,_⟩:=key 0 (by omega)
    obtain ⟨b,off,rfl⟩:=aLA hz0
    refine .inr (.inr ⟨b,off,rfl,hl,World.block_lt_of_cell? W _ hz0,fun j hj=>?_⟩)
    obtain ⟨z,hz,_⟩:=key j hj
    rw [←addr_add]
    simp only [hz]
  ·obtain ⟨z,hz,hb⟩:=key q hq
   simp only [hz]
   exact hb
end
section
open Go.RowKit
set_option linter.unusedVariables false
set_option linter.unusedSimpArgs false
set_option maxRecDepth 100000 in
theorem aDl {H : Type} {enc : TypeId × Value → H} {w : World} {b0 fuel : Nat} {sp : Nat → Bool} {held : Bool} {cs : List Value} {y : DataW H × List MemPlace}
    (hsl:cs.length=194) (h:DataW.trod enc Tryz.prog w b0 sp held fuel 53 cs=some y):∃ x:aAM,cs=aAW (aAf x)∧aCu x:=by
 obtain ⟨xs,n,_,_,_,hxl,hat⟩:=DataW.trod_struct Tryz.underlying53 h
 have hx:xs.length=2:=hxl
 have h0:=hat 0 _ rfl
 rw [List.getElem?_eq_getElem (by omega)] at h0
 have c0:Tryz.prog.cellsOf 30=98:=by kernel_rfl
 replace h0:DataW.trod enc Tryz.prog w b0 sp held n 30 ((cs.drop 0).take (Tryz.prog.cellsOf 30))=some xs[0]:=h0
 rw [c0] at h0
 obtain ⟨f0,e0,k0⟩:=aJk (by rw [List.length_take,List.length_drop,hsl];rfl) h0
 have h1:=hat 1 _ rfl
 rw [List.getElem?_eq_getElem (by omega)] at h1
 have c1:Tryz.prog.cellsOf 51=96:=by kernel_rfl
 replace h1:DataW.trod enc Tryz.prog w b0 sp held n 51 ((cs.drop 98).take (Tryz.prog.cellsOf 51))=some xs[1]:=h1
 rw [c1] at h1
 obtain ⟨f1,e1,k1⟩:=aCi Tryz.underlying51 Tryz.underlying5 (by kernel_rfl) (by rw [List.length_take,List.length_drop,hsl];rfl) h1
 have el:cs.drop 0=(cs.drop 0).take 98++((cs.drop 98).take 96++([])):=((aAy cs 0 98).trans (congrArg _ ((aAy cs 98 96).trans (congrArg _ (List.drop_eq_nil_of_le (by rw [hsl];exact Nat.le_refl _))))))
 rw [e0,e1] at el
 refine ⟨⟨f0,f1⟩,?_,k0,k1⟩
 exact el
set_option maxRecDepth 100000 in
theorem aDB {H : Type} {enc : TypeId × Value → H} {W w : World} {r : Reach} {base b0 : Nat} {sp : Nat → Bool} {held : Bool} {v : Value} {d : DataW H} {p : List MemPlace}
    (hv:Value.okWide Tryz.prog W r base 55 v) (h:DataW.Trod enc Tryz.prog w b0 sp held 55 v d p):∃ x:aA7,v=.agg (cel (aAd x))∧aBs x:=by
 obtain ⟨cs,rfl,hs,xs,n,hxl,hat⟩:=aIC Tryz.underlying55 hv h
 have hsz:cs.size=388:=hs.trans (by kernel_rfl)
 have hsl:cs.toList.length=388:=by rw [Array.length_toList];exact hsz
 have hx:xs.length=2:=hxl
 have h0:=hat 0 _ rfl
 rw [List.getElem?_eq_getElem (by omega)] at h0
 have c0:Tryz.prog.cellsOf 53=194:=by kernel_rfl
 replace h0:DataW.trod enc Tryz.prog w b0 sp held n 53 ((cs.toList.drop 0).take (Tryz.prog.cellsOf 53))=some xs[0]:=h0
 rw [c0] at h0
 obtain ⟨f0,e0,k0⟩:=aDl (by rw [List.length_take,List.length_drop,hsl];rfl) h0
 have h1:=hat 1 _ rfl
 rw [List.getElem?_eq_getElem (by omega)] at h1
 have c1:Tryz.prog.cellsOf 53=194:=by kernel_rfl
 replace h1:DataW.trod enc Tryz.prog w b0 sp held n 53 ((cs.toList.drop 194).take (Tryz.prog.cellsOf 53))=some xs[1]:=h1
 rw [c1] at h1
 obtain ⟨f1,e1,k1⟩:=aDl (by rw [List.length_take,List.length_drop,hsl];rfl) h1
 have el:cs.toList.drop 0=(cs.toList.drop 0).take 194++((cs.toList.drop 194).take 194++([])):=((aAy cs.toList 0 194).trans (congrArg _ ((aAy cs.toList 194 194).trans (congrArg _ (List.drop_eq_nil_of_le (by rw [hsl];exact Nat.le_refl _))))))
 rw [e0,e1] at el
 refine ⟨⟨f0,f1⟩,?_,k0,k1⟩
 congr 1
 apply Array.ext'
 exact el
end
end Go.Proofs.YtdjplhibmomajaaGreatDoor
