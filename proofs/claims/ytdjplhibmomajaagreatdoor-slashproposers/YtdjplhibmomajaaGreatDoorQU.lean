/- A part. -/
import Derived.Test.YtdjplhibmomajaaGreatDoorSlE
import Derived.Test.YtdjplhibmomajaaGreatDoorStY
import Derived.Test.YtdjplhibmomajaaGreatDoorQN
import Derived.Test.YtdjplhibmomajaaGreatDoorQW
import Derived.Test.YtdjplhibmomajaaGreatDoorQK
import Derived.Test.YtdjplhibmomajaaGreatDoorQT
import Derived.Test.YtdjplhibmomajaaGreatDoorQP
namespace Go.Proofs.YtdjplhibmomajaaGreatDoor
open Go.RowKit
set_option linter.unusedVariables false
set_option linter.unusedSimpArgs false
section
open Go.RowKit
set_option linter.unusedVariables false
set_option linter.unusedSimpArgs false
set_option maxRecDepth 20000
def dnE (x:aA1) (e:Int):Int:=if e=0 then (if aAN x=true then 0 else 2) else e
def dnS (x:aA1) (e:Int):aA1:=if dnE x e=0 then x else aAn
theorem BK.give {w V:World} {y b:Nat} {Y:aA1} {C:Array Value} (h:BK w y V Y) (r:V.heap[b]?=some (.cells C 49)) (c:Array Value):Res w.heap.size (V.setRow b c) Y Y:=by
 have hk:Kept b V (V.setRow b c):=(Kept.refl b V).setRow c
 have cp:aEJ w.heap.size (V.setRow b c) Y:=⟨aA9 h.cpd.o7 hk (aAx h.cpd.o7 r (by decide)),aA9 h.cpd.o9 hk (aAx h.cpd.o9 r (by decide)),aA9 h.cpd.o11 hk (aAx h.cpd.o11 r (by decide)),aA9 h.cpd.o12 hk (aAx h.cpd.o12 r (by decide)),aA9 h.cpd.o15 hk (aAx h.cpd.o15 r (by decide)),aA9 h.cpd.o16 hk (aAx h.cpd.o16 r (by decide)),aA9 h.cpd.o21 hk (aAx h.cpd.o21 r (by decide)),h.cpd.d15,h.cpd.d12⟩
 exact ⟨.refl _,⟨aCD cp.o7,aCY cp.o9 (fun i=>by rw [aAC];rfl),aCY cp.o11 (fun i=>by rw [aAC];rfl),aCZ cp.o12,aCO cp.o15,aCO cp.o16,aCZ cp.o21⟩,cp.nil,cp.nw⟩
attribute [local go_sem ↓] aAq aAr aAz
set_option maxHeartbeats 4000000 in
theorem aL8 (x : aA1) (e : Int) (w : World) (hx : aAD x) (hw : InW w x) :
    Calls Tryz.prog 29 #[.agg (cel (aA0 x)),.int .i64 e] w fun e' w'=>e'=.returned (.tuple #[.agg (cel (aA0 (dnS x e))),.int .i64 (dnE x e)])∧Below w.heap.size w w':=by
 obtain ⟨W0,hW0⟩:∃ W,(w.alloc (.cells (cel (aA0 x)) 49)).alloc (.cells (cel (aA0 aAn)) 49)=W:=⟨_,rfl⟩
 have r0:W0.heap[w.heap.size]?=some (.cells (cel (aA0 x)) 49):=by rw [←hW0];exact (aAc (by simp)).trans (aA2 rfl)
 have r1:W0.heap[w.heap.size+1]?=some (.cells (cel (aA0 aAn)) 49):=by rw [←hW0];exact aA2 (by simp)
 have hB0:Up w W0:=by rw [←hW0];exact ((Below.refl _ _).alloc (Nat.le_refl _) _).alloc (by simp) _
 have hri:=aFE x W0 hx.r' (hw.below hB0).r' ⟨hx.o10.1,hx.o4.1.1,hx.o18.1.1,hx.o19.1.1,hx.o20.1.1⟩
 have lx:=aAg r0
 have z:=aBg
 have bz:=aCI
 have HB:=hid hB0
 have HW:=hid hW0
 have R0:=hid r0
 have R1:=hid r1
 have HRI:=hid hri
 clear hri hB0 hW0 r0 r1 hx hw
 by_cases he:e=0
 ·subst he
  cases hR:aAN x
  ·rw [hR] at HRI
   have eE:dnE x 0=2:=by unfold dnE;rw [hR];rfl
   have eS:dnS x 0=aAn:=by unfold dnS;rw [eE];rfl
   rw [eE,eS]
   clear eE eS hR R0
   go_enter Tryz.func29,Tryz.ntmps29
   go_upto_region 1 with fail
   rw [HW.out]
   clear HW z
   go_wp2_with (go_at_call 20;refine HRI.out.mono ?_;rintro e' w1 ⟨rfl,hb1⟩;have s1:=aAA (upR hb1 R1.out) aAn)
   exact aC5 4 5 (w.heap.size+1) aAn 49 (.int .i64 2) rfl rfl rfl rfl (aA4 (upR hb1 R1.out)) ⟨rfl,aA6 (upT HB.out hb1) (by omega) _⟩
  ·rw [hR] at HRI
   have eE:dnE x 0=0:=by unfold dnE;rw [hR];rfl
   have eS:dnS x 0=x:=by unfold dnS;rw [eE];rfl
   rw [eE,eS]
   clear eE eS hR
   go_enter Tryz.func29,Tryz.ntmps29
   go_upto_region 1 with fail
   rw [HW.out]
   clear HW z
   go_wp2_with (go_at_call 20;refine HRI.out.mono ?_;rintro e' w1 ⟨rfl,hb1⟩;have lx1:=aAg (upR hb1 R0.out);have s1:=aAA (upR hb1 R1.out) x)
   exact aC5 4 5 (w.heap.size+1) x 49 (.int .i64 0) rfl rfl rfl rfl (aA4 (upR hb1 R1.out)) ⟨rfl,aA6 (upT HB.out hb1) (by omega) _⟩
 ·have eE:dnE x e=e:=if_neg he
  have eS:dnS x e=aAn:=by unfold dnS;rw [eE,if_neg he]
  rw [eE,eS]
  have s1:=aAA R1.out aAn
  have he1:(e == 0)=false:=by simp [he]
  have he2:(e != 0)=true:=by simp [he]
  clear eE eS HRI R0
  go_enter Tryz.func29,Tryz.ntmps29
  go_upto_region 1 with fail
  rw [HW.out]
  clear HW z
  go_wp2
  exact aC5 4 5 (w.heap.size+1) aAn 49 (.int .i64 e) rfl rfl rfl rfl (aA4 R1.out) ⟨rfl,aA6 HB.out (by omega) _⟩
end
section
open Go.RowKit
set_option linter.unusedVariables false
set_option linter.unusedSimpArgs false
set_option maxRecDepth 20000
theorem aHG {w:World} {g o:Nat} {x:aAM} (h:w.rangeAt g o (aAW (aAf x))):(aBS ⟨g,o,none⟩).run Tryz.prog w=.ok (.agg (cel (aAf x))) w :=
 aAP (run_loadAt_mid w g o 53 _ _ h Tryz.underlying53 rfl (by rw [aAC,show aCa (aAf x)=194 from rfl];kernel_rfl))
theorem aN2 {w:World} {g:Nat} {t:TypeId} {x:aAM} (h:w.heap[g]?=some (.cells (cel (aAf x)) t)):(aBS ⟨g,0,none⟩).run Tryz.prog w=.ok (.agg (cel (aAf x))) w :=
 aHG (aD3 (a:=[]) (b:=[]) h _ (by rw [List.append_nil];rfl))
theorem aPP (s:aA7):cel (aAd s)=([]++(aAW (aAf s.f0)++aAW (aAf s.f1))).toArray:=by kernel_rfl
theorem aNb (s:aA7):cel (aAd s)=(aAW (aAf s.f0)++(aAW (aAf s.f1)++[])).toArray:=by kernel_rfl
theorem aHQ {w:World} {g:Nat} {t:TypeId} {s:aA7} (h:w.heap[g]?=some (.cells (cel (aAd s)) t)):(aBS ⟨g,0,none⟩).run Tryz.prog w=.ok (.agg (cel (aAf s.f0))) w :=
 aHG (aD3 (a:=[]) h _ (aPP s))
theorem aHR {w:World} {g:Nat} {t:TypeId} {s:aA7} (h:w.heap[g]?=some (.cells (cel (aAd s)) t)):(aBS ⟨g,194,none⟩).run Tryz.prog w=.ok (.agg (cel (aAf s.f1))) w:=by
 have:=aD3 (a:=aAW (aAf s.f0)) (b:=[]) h _ (aNb s)
 rw [aAC,show aCa (aAf s.f0)=194 from rfl] at this
 exact aHG this
theorem aKr {w:World} {g:Nat} {t:TypeId} {s:aA7} (h:w.heap[g]?=some (.cells (cel (aAd s)) t)):(aBt ⟨g,0,none⟩).run Tryz.prog w=.ok (.agg (cel (aAm s.f0.f0))) w :=
 aEr (aD3 (a:=[]) (b:=bl s.f0.f1 96++aAW (aAf s.f1)) h _ (by kernel_rfl))
theorem aKs {w:World} {g:Nat} {t:TypeId} {s:aA7} (h:w.heap[g]?=some (.cells (cel (aAd s)) t)):(aBt ⟨g,194,none⟩).run Tryz.prog w=.ok (.agg (cel (aAm s.f1.f0))) w:=by
 have:=aD3 (a:=aAW (aAf s.f0)) (b:=bl s.f1.f1 96) h (aAW (aAm s.f1.f0)) (by kernel_rfl)
 rw [aAC,show aCa (aAf s.f0)=194 from rfl] at this
 exact aEr this
theorem aT8 (W:World):(zeroValue 53).run Tryz.prog W=.ok (.agg (cel (aAf aEb))) W:=by kernel_rfl
def bsS (n:Nat) (ps:Array (Nat × Value)):Sem Value:=Instr.buildSlice 73 n ps
theorem aNY (n:Nat) (ps:Array (Nat × Value)):Instr.buildSlice 73 n ps=bsS n ps:=rfl
theorem aRe (W:World) (s:aA7):(bsS 2 #[(0,.agg (cel (aAf s.f0))),(1,.agg (cel (aAf s.f1)))]).run Tryz.prog W=.ok (.slice (some ⟨W.heap.size,0,none⟩) 2 2) (W.alloc (.cells (cel (aAd s)) 53)):=by kernel_rfl
def ixS (x i:Value):Sem Value:=Instr.indexAt 73 x i
theorem aOl (x i:Value):Instr.indexAt 73 x i=ixS x i:=rfl
theorem aTQ (w:World):(sizeOf 53).run Tryz.prog w=.ok 194 w:=by
 have hi:(Tryz.prog.info? 53).map (·.size)=some 194:=by kernel_rfl
 cases hq:Tryz.prog.info? 53 with
 | none => simp [hq] at hi
 | some i => simp [hq] at hi; simp [sizeOf, typeInfo, hq, hi]
theorem aPq (w:World) (b off len cap i:Nat) (h:i < len):(ixS (.slice (some ⟨b,off,none⟩) len cap) (.int .i64 i)).run Tryz.prog w=.ok (.pointer (some ⟨b,off+194*i,none⟩)) w:=by
 unfold ixS Instr.indexAt
 have h1:(0:Int)≤(i:Int)∧(i:Int) < (len:Int):=by omega
 simp only [asIntOf,Sem.run_bind,Sem.run_pure,Result.andThen_ok,run_underlying Tryz.underlying73,if_pos h1,aTQ,Addr.add_mid,Int.toNat_natCast]
 rw [Nat.mul_comm]
theorem aRw (w:World) (b len cap i:Nat) (h:i < len):(ixS (.slice (some ⟨b,0,none⟩) len cap) (.int .i64 i)).run Tryz.prog w=.ok (.pointer (some ⟨b,194*i,none⟩)) w:=by
 have:=aPq w b 0 len cap i h
 rw [Nat.zero_add] at this
 exact this
def psH (s:aA7) (j:Nat):aAM:=if j=0 then s.f0 else s.f1
theorem aS9 {w:World} {g:Nat} {t:TypeId} {s:aA7} (h:w.heap[g]?=some (.cells (cel (aAd s)) t)) (j:Nat) (hj:j < 2):(aBS ⟨g,194*j,none⟩).run Tryz.prog w=.ok (.agg (cel (aAf (psH s j)))) w:=by
 match j,hj with
 | 0, _ => exact aHQ h
 | 1, _ => exact aHR h
theorem aOB (x:aA1) (s:aA7) (j:Nat) (hj:j < 2):bl (psQ x s) (32*j)++bl (hqV x (psH s j)) (32*1)=bl (psQ x s) (32*(j+1)):=by
 match j,hj with
 | 0, _ =>
  show bl (hqV x s.f0) 32=bl (psQ x s) 32
  exact aJW fun j hj=>by unfold psQ;rw [if_pos hj]
 | 1, _ =>
  show bl (psQ x s) 32++bl (hqV x s.f1) 32=bl (psQ x s) 64
  unfold bl
  rw [show (64:Nat)=32+32 from rfl,List.range_add,List.map_append,List.map_map]
  congr 1
theorem aDT {x:aA1} {s:aA7} {f:Nat→Int} {n:Nat} {w w':World} {e:Int} (h:psP x s=e) (he:¬ e=0) (hb:Up w w'):PsA x s f n w (.returned (.tuple #[.agg (cel (aA0 aAn)),.slice none 0 0,.int .i64 e])) w':=by
 have hp:¬ psP x s=0:=by rw [h];exact he
 have eK:psK x s f n=0:=by unfold psK;rw [if_neg hp]
 have eE:psE x s f n=e:=by unfold psE;rw [if_neg hp,h]
 have eS:psS x s f n=aAn:=by unfold psS;rw [if_neg (by rw [eE];exact he)]
 unfold PsA
 rw [eK,eE,eS]
 exact ⟨aAn,none,0,rfl,aMl _ _,.inl ⟨rfl,rfl,rfl⟩,.inl rfl,hb⟩
theorem aL0 {x:aA1} {s:aA7} {f:Nat→Int} {n:Nat} {w w':World} {a:Option Addr} {c j:Nat} (h:psP x s=0) (hj:j < 2) (hg:∀ i,i < j→gdB (hqV x (psH s i)) f n=true) (hn:gdB (hqV x (psH s j)) f n=false) (hr:Rts w' a (j+1) c (psQ x s)) (hw:NwL w.heap.size a (j+1)) (hb:Up w w'):PsA x s f n w (.returned (.tuple #[.agg (cel (aA0 aAn)),.slice a ((j+1:Nat)) c,.int .i64 25])) w':=by
 have e0:psH s 0=s.f0:=rfl
 have e1:psH s 1=s.f1:=rfl
 have hh:(gdB (hqV x s.f0) f n=false∧j=0)∨(gdB (hqV x s.f0) f n=true∧gdB (hqV x s.f1) f n=false∧j=1):=by
  by_cases hj0:j=0
  ·subst hj0
   rw [e0] at hn
   exact .inl ⟨hn,rfl⟩
  ·obtain rfl:j=1:=by omega
   have g0:=hg 0 (by omega)
   rw [e0] at g0
   rw [e1] at hn
   exact .inr ⟨g0,hn,rfl⟩
 clear hg hn
 obtain ⟨G0,eG0⟩:∃ b,gdB (hqV x s.f0) f n=b:=⟨_,rfl⟩
 obtain ⟨G1,eG1⟩:∃ b,gdB (hqV x s.f1) f n=b:=⟨_,rfl⟩
 rw [eG0,eG1] at hh
 have eK:psK x s f n=j+1:=by
  unfold psK
  rw [if_pos h,eG0]
  rcases hh with ⟨rfl,rfl⟩ | ⟨rfl,rfl,rfl⟩<;>rfl
 have eE:psE x s f n=25:=by
  unfold psE
  rw [if_pos h,eG0,eG1]
  rcases hh with ⟨rfl,rfl⟩ | ⟨rfl,rfl,rfl⟩<;>simp
 have eS:psS x s f n=aAn:=by unfold psS;rw [if_neg (by rw [eE];decide)]
 unfold PsA
 rw [eK,eE,eS]
 exact ⟨aAn,a,c,rfl,aMl _ _,hr,hw,hb⟩
theorem aOz {x:aA1} {s:aA7} {f:Nat→Int} {n:Nat} {w w':World} {a:Option Addr} {c:Nat} {X:aA1} (h:psP x s=0) (hg:∀ i,i < 2→gdB (hqV x (psH s i)) f n=true) (hs:Res w.heap.size w' (sqS x s.f0.f0.f1) X) (hr:Rts w' a 2 c (psQ x s)) (hw:NwL w.heap.size a 2) (hb:Up w w'):PsA x s f n w (.returned (.tuple #[.agg (cel (aA0 X)),.slice a 2 c,.int .i64 (sqE x s.f0.f0.f1)])) w':=by
 have e0:psH s 0=s.f0:=rfl
 have e1:psH s 1=s.f1:=rfl
 have g0:=hg 0 (by omega)
 have g1:=hg 1 (by omega)
 rw [e0] at g0
 rw [e1] at g1
 clear hg
 have eK:psK x s f n=2:=by unfold psK;rw [if_pos h,if_pos g0]
 have eE:psE x s f n=sqE x s.f0.f0.f1:=by unfold psE;rw [if_pos h,if_pos ⟨g0,g1⟩]
 have eS:psS x s f n=sqS x s.f0.f0.f1:=by
  unfold psS
  rw [eE]
  by_cases hz:sqE x s.f0.f0.f1=0
  ·rw [if_pos hz]
  ·rw [if_neg hz];unfold sqS;rw [if_neg hz]
 unfold PsA
 rw [eK,eE,eS]
 exact ⟨X,a,c,rfl,hs,hr,hw,hb⟩
attribute [local go_sem ↓] aB8 aKn
def hdE (a b:aB6):Int:=if a.f0=b.f0 then (if a.f1=b.f1 then (if eqH a b=true then 26 else 0) else 27) else 20
theorem aSg {x:aA1} {s:aA7} (hR:aAN x=true) (h:¬ hdE s.f0.f0 s.f1.f0=0):psP x s=hdE s.f0.f0 s.f1.f0:=by
 unfold psP hdE at *
 rw [if_pos hR]
 split
 ·split
  ·split
   ·rfl
   ·rename_i h1 h2 h3
    rw [if_pos h1,if_pos h2,if_neg h3] at h
    exact absurd rfl h
  ·rfl
 ·rfl
theorem aRp {a b:aB6} (h:hdE a b=0):a.f0=b.f0∧a.f1=b.f1∧eqH a b=false:=by
 unfold hdE at h
 split at h
 ·split at h
  ·split at h
   ·omega
   ·rename_i h1 h2 h3
    exact ⟨h1,h2,by simpa using h3⟩
  ·omega
 ·omega
set_option maxHeartbeats 2000000 in
theorem aJa (a b : aB6) (w : World) (ha : aBV a) (hb : aBV b) :
    Calls Tryz.prog 13 #[.agg (cel (aAm a)),.agg (cel (aAm b))] w fun e' w'=>e'=.returned (.int .i64 (hdE a b))∧Below w.heap.size w w':=by
 obtain ⟨W0,hW0⟩:∃ W,(w.alloc (.cells (cel (aAm a)) 30)).alloc (.cells (cel (aAm b)) 30)=W:=⟨_,rfl⟩
 have r0:W0.heap[w.heap.size]?=some (.cells (cel (aAm a)) 30):=by rw [←hW0];exact (aAc (by simp)).trans (aA2 rfl)
 have r1:W0.heap[w.heap.size+1]?=some (.cells (cel (aAm b)) 30):=by rw [←hW0];exact aA2 (by simp)
 have hB0:Up w W0:=by rw [←hW0];exact ((Below.refl _ _).alloc (Nat.le_refl _) _).alloc (by simp) _
 have a0:=aAH r0 0 a.f0 rfl 0 rfl
 have a1:=aAH r0 1 a.f1 rfl 1 rfl
 have b0:=aAH r1 0 b.f0 rfl 0 rfl
 have b1:=aAH r1 1 b.f1 rfl 1 rfl
 have la:(aBt ⟨w.heap.size,0,none⟩).run Tryz.prog W0=.ok (.agg (cel (aAm a))) W0:=aEr (aD3 (a:=[]) (b:=[]) r0 _ (by rw [List.append_nil];rfl))
 have lb:(aBt ⟨w.heap.size+1,0,none⟩).run Tryz.prog W0=.ok (.agg (cel (aAm b))) W0:=aEr (aD3 (a:=[]) (b:=[]) r1 _ (by rw [List.append_nil];rfl))
 have he:=aIh W0 a b ha hb
 have HB:=hid hB0
 have HW:=hid hW0
 have ecl:hdE a b=if a.f0=b.f0 then (if a.f1=b.f1 then (if eqH a b=true then 26 else 0) else 27) else 20:=rfl
 have ECL:=hid ecl
 generalize eqH a b=EH at he ECL
 generalize hdE a b=CL at ECL ⊢
 generalize a.f0=p at a0 ECL
 generalize a.f1=q at a1 ECL
 generalize b.f0=p2 at b0 ECL
 generalize b.f1=q2 at b1 ECL
 clear hB0 hW0 r0 r1 ha hb ecl
 by_cases h0:p=p2
 ·obtain rfl:=h0
  by_cases h1:q=q2
  ·obtain rfl:=h1
   cases EH
   ·obtain rfl:CL=0:=by rw [ECL.out,if_pos rfl,if_pos rfl];rfl
    clear ECL
    go_enter Tryz.func13,Tryz.ntmps13
    go_upto_region 1 with fail
    rw [HW.out]
    clear HW
    go_wp2
    go_ret
    exact ⟨rfl,HB.out⟩
   ·obtain rfl:CL=26:=by rw [ECL.out,if_pos rfl,if_pos rfl];rfl
    clear ECL
    go_enter Tryz.func13,Tryz.ntmps13
    go_upto_region 1 with fail
    rw [HW.out]
    clear HW
    go_wp2
    go_ret
    exact ⟨rfl,HB.out⟩
  ·obtain rfl:CL=27:=by rw [ECL.out,if_pos rfl,if_neg h1]
   have h1a:(q != q2)=true:=by simp [h1]
   have h1b:(q == q2)=false:=by simp [h1]
   clear ECL
   go_enter Tryz.func13,Tryz.ntmps13
   go_upto_region 1 with fail
   rw [HW.out]
   clear HW
   go_wp2
   go_ret
   exact ⟨rfl,HB.out⟩
 ·obtain rfl:CL=20:=by rw [ECL.out,if_neg h0]
  have h0a:(p != p2)=true:=by simp [h0]
  have h0b:(p == p2)=false:=by simp [h0]
  clear ECL
  go_enter Tryz.func13,Tryz.ntmps13
  go_upto_region 1 with fail
  rw [HW.out]
  clear HW
  go_wp2
  go_ret
  exact ⟨rfl,HB.out⟩
end
section
open Go.RowKit
set_option linter.unusedVariables false
set_option linter.unusedSimpArgs false
set_option maxRecDepth 20000
theorem aJI (X:aA1) (i:Nat) (f g:aA5→aA5) (h:f (X.f11.z i)=g (X.f11.z i)):aDF X i f=aDF X i g:=by
 unfold aDF
 rw [h]
theorem aNv (i p:Nat) (x:aA1):cor (aEw x i p)=cor (aEw (cor x) i p):=by
 have h:=aGh i x
 unfold aEw
 rw [aDG,h,←aDG,aHz h]
 rfl
theorem aNw {x X:aA1} (i p:Nat) (h:aBQ x X):aBQ (aEw x i p) (aEw X i p):=aLy (F:=fun x=>aEw x i p) (aNv i p) h
attribute [local go_sem ↓] aAq aAr aAz aAi aAl aAw aF1
set_option maxHeartbeats 8000000 in
theorem aHf (X : aA1) (i p y : Nat) (w V : World) (hb : BK w y V X) (hR : Rg X) (hi : i < X.f11.n) (hp : p < X.f11.n) :
    Calls Tryz.prog 47 #[.pointer (some ⟨y,0,none⟩),.int .u64 i,.int .u64 p] V fun e' V'=>e'=.returned (.tuple #[])∧BK w y V' (aEw X i p):=by
 have hll:=aEB X i y w V hb hR hi
 have h2:=hR.ok.o2.1
 have h2':=hR.sl
 have hRY:=hR.lv i
 have hiY:i < (lvS X i).f11.n:=by rw [(aKI X i).2.2.1];exact hi
 have hA:slA X i=aDF (lvS X i) i (slV (X.f2 / 4)):=rfl
 have hY2:=(aKI X i).1
 have hef:aJ9 X i=((lvS X i).f11.z i).f2:=by unfold aJ9;rw [aFV]
 obtain ⟨Y,eY⟩:∃ Y,lvS X i=Y:=⟨_,rfl⟩
 rw [eY] at hll hRY hiY hA hY2 hef
 have hep:=fun W=>aFW Y W hRY.ok.o2.1 hRY.sl
 rw [hY2] at hep
 have hEI:(X.f2 / 4 % 8).toNat=(X.f2 / 4 % 8).toNat:=rfl
 obtain ⟨E,eE⟩:∃ E,X.f2 / 4=E:=⟨_,rfl⟩
 have hE0:0≤E:=by omega
 have hE1:E < 274877906944:=by omega
 rw [eE] at hep hA
 have EE:=hid eE
 have HEP:=hid hep
 have HLL:=hid hll
 have HR:=hid hR
 have HRY:=hid hRY
 have HI:=hid hi
 have HIY:=hid hiY
 have HP:=hid hp
 have HA:=hid hA
 have HEF0:=hid hef
 have k8:IntKind.u64.wrap (E+8)=E+8:=by rw [IntKind.wrap_u64];omega
 clear hep hb hR hi hp eE h2 h2' hll hRY hiY hA hY2 hef hEI
 go_enter Tryz.func47,Tryz.ntmps47
 go_upto_region 1 with (go_at_call 33;refine HLL.out.mono ?_;rintro e' w1 ⟨rfl,hb1⟩)
 have ld:=aAg hb1.row
 have HB1:=hid hb1
 clear hb1 HLL
 go_upto_region 2 with (go_at_call 16;refine (HEP.out _).mono ?_;rintro e' w2 ⟨rfl,hb2⟩)
 have hb2':=HB1.out.below hb2
 obtain ⟨g,hg⟩:=aCV hb2'.cpd.o11 (by have:=HIY.out;omega)
 have hvl:=hb2'.vl hg
 have c0:=hvl.c11
 have ix:=fun W=>aMR W g Y.f11.n Y.f11.c i HIY.out
 have c81:=aON (hvl.at_ i HIY.out)
 obtain ⟨RC,hRC⟩:=hvl.row
 have f81:=aAa hRC (86*i+81)
 have hb3:=hb2'.val (fun v=>{ v with f3:=true }) (.bool true) (aJ0 _ _) (by omega) hg HIY.out
 have HB3:=hid hb3
 have HG:=hid hg
 clear hb2 hb2' hvl hRC hb3 hg HB1 ld HEP
 go_upto_region 3 with fail
 clear c0 ix
 go_upto_region 4 with fail
 obtain ⟨W3,hW3⟩:∃ W,w2.setCell ⟨g,86*i+81,none⟩ (.bool true)=W:=⟨_,rfl⟩
 rw [hW3] at HB3 ⊢
 clear hW3 c81 f81
 have hi3:i < (aDF Y i fun v=>{ v with f3:=true }).f11.n:=HIY.out
 have hv3:=HB3.out.vl HG.out
 have e7:=aIZ (hv3.at_ i hi3)
 rw [aGr] at e7
 obtain ⟨RC,hRC⟩:=hv3.row
 have f7:=aAa hRC (86*i+85)
 have hF7:=((HRY.out.ok.o11 i HIY.out).2.2.2.2.2.2.2)
 obtain ⟨F7,eF7⟩:∃ F,(Y.f11.z i).f7=F:=⟨_,rfl⟩
 rw [eF7] at hF7
 have e7':W3.cell? ⟨g,86*i+85,none⟩=some (.int .u64 F7):=by rw [←eF7];exact e7
 have hb4:∀ M,M=(if F7 < E+8 then E+8 else F7)→BK w y (W3.setCell ⟨g,86*i+85,none⟩ (.int .u64 M)) (slA X i):=fun M hM=>by
  have:=HB3.out.val (fun v=>{ v with f7:=M }) (.int .u64 M) (aEm _ _) (by omega) HG.out hi3
  rw [aEl] at this
  rw [HA.out,aJI Y i (slV E) (fun v=>{ v with f3:=true,f7:=M }) (by rw [hM,←eF7];rfl)]
  exact this
 have HB4:=hid hb4
 clear e7 hv3 hRC hb4 HB3 hi3 eF7
 go_cut [6] from 8 (fun u wx=>u=.int .u64 E∧BK w y wx (slA X i))
 case first =>
  by_cases hq:F7 < E+8
  ·have hm:max F7 (E+8)=E+8:=by omega
   have hq2:F7≤E+8:=by omega
   have HB5:=hid (HB4.out (E+8) (by rw [if_pos hq]))
   clear HB4
   go_wp2
   all_goals go_meet
   exact ⟨rfl,HB5.out⟩
  ·have hm:max F7 (E+8)=F7:=by omega
   have hq2:E+8≤F7:=by omega
   have HB5:=hid (HB4.out F7 (by rw [if_neg hq]))
   clear HB4
   go_wp2
   all_goals go_meet
   exact ⟨rfl,HB5.out⟩
 case rest =>
  obtain ⟨rfl,hb5⟩:=hcut
  clear HB4 e7' f7 hF7 k8
  obtain ⟨W5,eW5⟩:∃ W,wc=W:=⟨_,rfl⟩
  rw [eW5] at hb5 ⊢
  clear eW5
  have hRA:=HR.out.a i
  have hiA:i < (slA X i).f11.n:=by rw [(aFr X i).2.2.1];exact HI.out
  have hgA:(slA X i).f11.a=some ⟨g,0,none⟩:=by rw [HA.out];exact HG.out
  obtain ⟨J,hJ,eJ⟩:∃ J:Nat,J < 8∧E % 8=(J:Int):=⟨(E % 8).toNat,by omega,by omega⟩
  obtain ⟨F,eF⟩:∃ F,aJ9 X i=F:=⟨_,rfl⟩
  have hBd:slB X i=s14 (slA X i) J (w64 ((slA X i).f14 J+F)):=by
   have:(X.f2 / 4 % 8).toNat=J:=by rw [EE.out,eJ];rfl
   unfold slB
   rw [this,eF]
  have hCd:slC X i=aHl (slB X i) i (aHm ((slB X i).f12.z i) (F / 64)):=by unfold slC;rw [eF]
  have hOd:aEw X i p=aHl (slC X i) p (w64 ((slC X i).f12.z p+F / 512)):=by unfold aEw;rw [eF]
  have hF:=HR.out.ef i HI.out
  rw [show (X.f11.z i).f2=F from eF] at hF
  obtain ⟨f0,f1⟩:=hF
  have hF80:∀ W,BK w y W (slA X i)→W.cell? ⟨g,86*i+80,none⟩=some (.int .u64 F):=fun W h=>by
   have:=aDj ((h.vl hgA).at_ i hiA)
   rw [aEV] at this
   rw [←eF]
   exact this
  have c14:=aV3 hb5.row J hJ
  have f14:=aAa hb5.row (979+J)
  have c80:=hF80 _ hb5
  have j1:(J:Int) < 8:=by omega
  have j0:(0:Int)≤(J:Int):=by omega
  obtain ⟨S,eS⟩:∃ S,(slA X i).f14 J=S:=⟨_,rfl⟩
  rw [eS] at c14 hBd
  have kw:IntKind.u64.wrap (S+F)=w64 (S+F):=rfl
  have hb6:=hb5.sla (w64 (S+F)) hJ
  rw [←hBd] at hb6
  have HB6:=hid hb6
  have HCd:=hid hCd
  have HOd:=hid hOd
  have hgB:(slB X i).f11.a=some ⟨g,0,none⟩:=hgA
  have hiB:i < (slB X i).f11.n:=hiA
  have hefB:((slB X i).f11.z i).f2=F:=by
   show ((slA X i).f11.z i).f2=F
   rw [aEV]
   exact eF
  have HGB:=hid hgB
  have HIB:=hid hiB
  have HEB:=hid hefB
  have EFF:=hid eF
  clear hb6 eS hBd hCd hOd hb5 hF80 hgA hiA hgB hiB hefB eF HA HEF0 HRY HIY HG
  go_upto_region 5 with fail
  go_region
  obtain ⟨W6,hW6⟩:∃ W,(W5.setCell ⟨y,979+J,none⟩ (.int .u64 (w64 (S+F)))).drew=W:=⟨_,rfl⟩
  replace HB6:Hid (BK w y W6 (slB X i)):=by rw [←hW6];exact HB6.out.drew
  rw [hW6]
  clear hW6 c14 f14 c80 j0 j1 kw eJ
  have hRB:=HR.out.b i
  have hi12:i < (slB X i).f12.n:=by have:=hRB.ln;have:=HIB.out;omega
  obtain ⟨g2,hg2⟩:=aCV HB6.out.cpd.o12 (by omega)
  have hbl:=HB6.out.bl12 hg2
  obtain ⟨C2,hr2⟩:=hbl.row
  have hvl:=HB6.out.vl HGB.out
  obtain ⟨C3,hr3⟩:=hvl.row
  have hne:=aG9 HB6.out.row hr2 (by decide)
  have hne2:=aG9 hr3 hr2 (by decide)
  have hcg:=hbl.at_ i hi12
  have hlt:g2 < W6.heap.size:=aAe hr2
  have hc:∀ W,Kept g2 W6 W→W.cell? ⟨y,722,none⟩=some (.slice (some ⟨g2,0,none⟩) (slB X i).f12.n (slB X i).f12.c):=fun W h=>(h.cell (aAe HB6.out.row) hne).trans hbl.c12
  have hef:∀ W,Kept g2 W6 W→W.cell? ⟨g,86*i+80,none⟩=some (.int .u64 F):=fun W h=>(h.cell (aAe hr3) hne2).trans ((aDj (hvl.at_ i HIB.out)).trans (by rw [HEB.out]))
  have hix:=fun W=>aMQ W g2 (slB X i).f12.n (slB X i).f12.c i hi12
  have hz:=hRB.ok.o12 i hi12
  have kt:F.tdiv 64=F / 64:=Int.tdiv_eq_ediv_of_nonneg f0
  have kq:IntKind.u64.wrap (F / 64)=F / 64:=by rw [IntKind.wrap_u64];omega
  have hle:=fun W=>aKz ((slB X i).f12.z i) (F / 64) W hz.1 hz.2 (by omega) (by omega)
  have hB:∀ T W,Up W6 W→BK w y (W.setCell ⟨g2,i,none⟩ (.int .u64 T)) (aHl (slB X i) i T):=fun T W h=>(HB6.out.below h).bal T hg2 hi12
  have hCd:=HCd.out
  obtain ⟨B,eB⟩:∃ B,(slB X i).f12.z i=B:=⟨_,rfl⟩
  rw [eB] at hcg hle hCd
  obtain ⟨T,eT⟩:∃ T,aHm B (F / 64)=T:=⟨_,rfl⟩
  rw [eT] at hle hCd
  have hb7:=hB T
  rw [←hCd] at hb7
  have HB7:=hid hb7
  have HC:=hid hc
  have HEF:=hid hef
  have HG:=hid hcg
  have HIX:=hid hix
  have HLE:=hid hle
  have HLG:=hid hlt
  have HROW:=hid hr2
  have HG2:=hid hg2
  clear hb7 hB hc hef hcg hix hle hlt hr2 hg2 hbl hvl hr3 hne hne2 hz hCd HCd eB eT hRB HEB HIB
  go_upto_region 6 with fail
  refine wp_region_noPanic ?_
  refine wp_region_held_drew (S:=fun W=>Kept g2 W6 W) (by kernel_rfl) ((Kept.refl _ _).drew) (fun hHeld=>?_)
  have hUd:Up W6 W6.drew:=(Below.refl _ _).drew
  generalize W6.drew=wd at hHeld hUd ⊢
  refine tk 0 (v:=?v601) ?y601 hHeld ?r601
  case y601=>intro w hSw;go_simp;try with_reducible rfl
  refine tk 1 (v:=?v602) ?y602 hHeld ?r602
  case y602=>intro w hSw;go_simp;try with_reducible rfl
  refine tk 2 (v:=?v603) ?y603 hHeld ?r603
  case y603=>intro w hSw;go_simp;try with_reducible rfl
  refine tk 3 (v:=?v604) ?y604 hHeld ?r604
  case y604=>intro w hSw;have ld0:=HC.out w hSw;go_simp;try with_reducible rfl
  refine tk 4 (v:=?v605) ?y605 hHeld ?r605
  case y605=>intro w hSw;go_simp;try with_reducible rfl
  refine tk 5 (v:=?v606) ?y606 hHeld ?r606
  case y606=>intro w hSw;go_simp;try with_reducible rfl
  refine tk 6 (v:=?v607) ?y607 hHeld ?r607
  case y607=>intro w hSw;go_simp;try with_reducible rfl
  refine tk 7 (v:=?v608) ?y608 hHeld ?r608
  case y608=>intro w hSw;go_simp;try with_reducible rfl
  refine tk 8 (v:=?v609) ?y609 hHeld ?r609
  case y609=>intro w hSw;have ld0:=HC.out w hSw;go_simp;try with_reducible rfl
  refine tk 9 (v:=?v610) ?y610 hHeld ?r610
  case y610=>intro w hSw;go_simp;try with_reducible rfl
  refine tk 10 (v:=?v611) ?y611 hHeld ?r611
  case y611=>intro w hSw;have ld0:=HIX.out w;go_simp;try with_reducible rfl
  refine tk 12 (v:=?v612) ?y612 hHeld ?r612
  case y612=>intro w hSw;go_simp;try with_reducible rfl
  refine tk 13 (v:=?v613) ?y613 hHeld ?r613
  case y613=>intro w hSw;go_simp;try with_reducible rfl
  refine tk 14 (v:=?v614) ?y614 hHeld ?r614
  case y614=>intro w hSw;go_simp;try with_reducible rfl
  refine tk 15 (v:=?v615) ?y615 hHeld ?r615
  case y615=>intro w hSw;have ld0:=HEF.out w hSw;go_simp;try with_reducible rfl
  refine tk 16 (v:=?v616) ?y616 hHeld ?r616
  case y616=>intro w hSw;go_simp;try with_reducible rfl
  try simp only [Act.put,z_1,z_2,z_3,z_4,z_5,z_6,z_7]
  refine rd1 11 (fun K hK=>?_)
  have cg:=(aAk hUd HLG.out).trans HG.out
  go_simp
  refine hK.out _ _ hHeld (fun hHeld=>?_)
  clear hK K cg
  try simp only [Act.put,z_1,z_2,z_3,z_4,z_5,z_6,z_7]
  refine rd1 17 (fun K hK=>?_)
  go_simp
  refine (HLE.out wd).mono ?_
  rintro e' x1 ⟨rfl,hd1⟩
  obtain rfl:=hd1
  dsimp only
  refine hK.out _ _ hHeld (fun hHeld=>?_)
  clear hK K
  try simp only [Act.put,z_1,z_2,z_3,z_4,z_5,z_6,z_7]
  refine tk 18 (v:=?v617) ?y617 hHeld ?r617
  case y617=>intro w hSw;have ld0:=HIX.out w;go_simp;try with_reducible rfl
  try simp only [Act.put,z_1,z_2,z_3,z_4,z_5,z_6,z_7]
  refine rd1 19 (fun K hK=>?_)
  have cg:=(aAk hUd HLG.out).trans HG.out
  have fg:=aAa (upR hUd HROW.out) i
  go_simp
  have hce:Kept g2 W6 _:=hHeld.trans ((Kept.refl g2 x1).setCell i (.int .u64 T))
  refine hK.out _ _ hce (fun hHeld=>?_)
  clear hK K cg fg
  try simp only [Act.put,z_1,z_2,z_3,z_4,z_5,z_6,z_7]
  refine wpAnyH_done (by kernel_rfl) ?_ _
  refine NoPanic.normal ?_
  have hb7:=HB7.out _ hUd
  obtain ⟨W7,hW7⟩:∃ W,x1.setCell ⟨g2,i,none⟩ (.int .u64 T)=W:=⟨_,rfl⟩
  rw [hW7] at hb7 ⊢
  have hef7:=HEF.out
  clear hW7 HC HG HIX HLE HLG HROW HB7 kt kq hHeld hUd hef7 HEF
  have hgC:(slC X i).f11.a=some ⟨g,0,none⟩:=HGB.out
  have hgC2:(slC X i).f12.a=some ⟨g2,0,none⟩:=HG2.out
  have hiC:i < (slC X i).f11.n:=by show i < (slA X i).f11.n;rw [(aFr X i).2.2.1];exact HI.out
  have hpC:p < (slC X i).f12.n:=by
   have e1:=(HR.out.c i HI.out).ln
   have e2:(slC X i).f11.n=X.f11.n:=(aFr X i).2.2.1
   have:=HP.out
   omega
  have hbl:=hb7.bl12 hgC2
  obtain ⟨C2,hr2⟩:=hbl.row
  have c12:=hbl.c12
  have cp:=hbl.at_ p hpC
  have fp:=aAa hr2 p
  have ix:=fun W=>aMQ W g2 (slC X i).f12.n (slC X i).f12.c p hpC
  have ce:=aDj ((hb7.vl hgC).at_ i hiC)
  rw [show ((slC X i).f11.z i).f2=((slA X i).f11.z i).f2 from rfl,aEV,show (X.f11.z i).f2=aJ9 X i from rfl,EFF.out] at ce
  have kt:F.tdiv 512=F / 512:=Int.tdiv_eq_ediv_of_nonneg f0
  have kq:IntKind.u64.wrap (F / 512)=F / 512:=by rw [IntKind.wrap_u64];omega
  have hb8:=hb7.bal (w64 ((slC X i).f12.z p+F / 512)) hgC2 hpC
  rw [←HOd.out] at hb8
  have kw:IntKind.u64.wrap ((slC X i).f12.z p+F / 512)=w64 ((slC X i).f12.z p+F / 512):=rfl
  have HB8:=hid hb8
  clear hb8 hb7 hbl hr2 HOd HGB HB6 HG2
  go_upto_region 7 with fail
  go_region
  go_end0
  exact ⟨rfl,HB8.out.drew⟩
end
end Go.Proofs.YtdjplhibmomajaaGreatDoor
