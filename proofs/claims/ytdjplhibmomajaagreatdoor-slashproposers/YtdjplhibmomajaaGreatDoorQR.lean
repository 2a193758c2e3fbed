/- A part. -/
import Derived.Test.YtdjplhibmomajaaGreatDoorQQ
import Derived.Test.YtdjplhibmomajaaGreatDoorQN
import Derived.Test.YtdjplhibmomajaaGreatDoorQD
namespace Go.Proofs.YtdjplhibmomajaaGreatDoor
open Go.RowKit
set_option linter.unusedVariables false
set_option linter.unusedSimpArgs false
section
open Go.RowKit
set_option linter.unusedVariables false
set_option linter.unusedSimpArgs false
set_option maxRecDepth 20000
def aNq:List Value→Nat→List Value→List Value
 | xs, _, [] => xs
 | xs, o, v :: r => aNq (xs.set o v) (o + 1) r
theorem aHd:∀ (l a b:List Value),b.length=l.length→aNq (a++b) a.length l=a++l
 | [], a, b, h => by rw [List.length_eq_zero_iff.1 h]; rfl
 | v :: r, a, [], h => by cases h
 | v :: r, a, c :: d, h => by
  show aNq ((a++c :: d).set a.length v) (a.length+1) r=_
  rw [List.set_append_right _ _ (Nat.le_refl _),Nat.sub_self]
  have:=aHd r (a++[v]) d (Nat.succ.inj h)
  rw [List.length_append,List.append_assoc,List.append_assoc] at this
  exact this
theorem aHc {k:Nat} (n i:Nat) (hi:i < n):∀ (l:List Value) (p:Nat) (e:Nat→List Value),(∀ j,(e j).length=k)→p+l.length≤k→aNq (flat e n) (i*k+p) l=flat (fun j=>if j=i then aNq (e i) p l else e j) n
 | [], p, e, h, hp => congrArg (fun f => flat f n) (funext fun j => by
     by_cases hj:j=i
     · rw [if_pos hj,hj];rfl
     · rw [if_neg hj])
 | v :: r, p, e, h, hp => by
  rw [List.length_cons] at hp
  show aNq ((flat e n).set (i*k+p) v) (i*k+p+1) r=_
  rw [aIj h n i p hi (by omega) v,Nat.add_assoc,aHc n i hi r (p+1) (fun j=>if j=i then (e i).set p v else e j) (fun j=>by
   show (if j=i then (e i).set p v else e j).length=k
   by_cases hj:j=i
   ·rw [if_pos hj,List.length_set];exact h i
   ·rw [if_neg hj];exact h j) (by omega)]
  refine congrArg (fun f=>flat f n) (funext fun j=>?_)
  show (if j=i then aNq (if i=i then (e i).set p v else e i) (p+1) r else if j=i then (e i).set p v else e j)=_
  by_cases hj:j=i
  ·rw [if_pos hj,if_pos hj,if_pos rfl];rfl
  ·rw [if_neg hj,if_neg hj,if_neg hj]
theorem aID {B k g n cap:Nat} {t:TypeId}:∀ (l:List Value) {w:World} {xs:List Value} (o:Nat),w.ownsRow B t k (.slice (some ⟨g,0,none⟩) n cap) n xs→o+l.length≤n*k→(w.setCells g o l).ownsRow B t k (.slice (some ⟨g,0,none⟩) n cap) n (aNq xs o l)
 | [], w, xs, o, h, _ => h
 | v :: r, w, xs, o, h, hl => by
  rw [List.length_cons] at hl
  exact aID r (o+1) (aHO h o (by omega) v) (by omega)
theorem aKx {w V V':World} {y g:Nat} (h:Kept y w V) (hg:w.heap.size≤g) (hk:Kept g V V'):Kept y w V' :=
 ⟨hk.os.trans h.os,hk.tape.trans h.tape,hk.output.trans h.output,Nat.le_trans h.size hk.size,fun k hk1 hn=>(hk.block k (Nat.lt_of_lt_of_le hk1 h.size) (by omega)).trans (h.block k hk1 hn)⟩
theorem BK.valW {w V:World} {y i g:Nat} {X:aA1} (v:aA5) (h:BK w y V X) (hg:X.f11.a=some ⟨g,0,none⟩) (hi:i < X.f11.n):BK w y (V.setCells g (86*i) (aAW (aA3 v))) (aDF X i fun _=>v):=by
 have o11:=h.cpd.o11
 rw [hg] at o11
 obtain ⟨hB,C,hrg⟩:=aF7 o11
 have l86:∀ u:aA5,(aAW (aA3 u)).length=86:=fun u=>by rw [aAC];rfl
 have hb:86*i+(aAW (aA3 v)).length≤X.f11.n*86:=by
  rw [l86]
  have:i*86+86≤X.f11.n*86:=by
   rw [←Nat.succ_mul]
   exact Nat.mul_le_mul_right _ hi
  omega
 have h1:=aID (aAW (aA3 v)) (86*i) o11 hb
 have hf:=aHc X.f11.n i hi (aAW (aA3 v)) 0 (fun j=>aAW (aA3 (X.f11.z j))) (fun j=>l86 _) (by rw [l86];omega)
 rw [Nat.add_zero,Nat.mul_comm] at hf
 rw [hf] at h1
 have hw:=aHd (aAW (aA3 v)) [] (aAW (aA3 (X.f11.z i))) (by rw [l86,l86])
 have e:(fun j=>if j=i then aNq (aAW (aA3 (X.f11.z i))) 0 (aAW (aA3 v)) else aAW (aA3 (X.f11.z j)))=fun j=>aAW (aA3 ((aDF X i fun _=>v).f11.z j)):=funext fun j=>by
  show _=aAW (aA3 (if j=i then v else X.f11.z j))
  by_cases hj:j=i
  ·rw [if_pos hj,if_pos hj];exact hw
  ·rw [if_neg hj,if_neg hj]
 rw [e] at h1
 have hk:Kept g V (V.setCells g (86*i) (aAW (aA3 v))):=aBk (aAW (aA3 v)) (86*i) (Kept.refl g V)
 have hne:y≠g:=fun e=>by
  subst e
  rw [h.row] at hrg
  injection hrg with q
  injection q with _ q2
  exact absurd q2 (by decide)
 refine ⟨aKx h.kep hB hk,(hk.block y (aB0 h.row) hne).trans h.row,⟨aA9 h.cpd.o7 hk (aAx h.cpd.o7 hrg (by decide)),aA9 h.cpd.o9 hk (aAx h.cpd.o9 hrg (by decide)),?_,aA9 h.cpd.o12 hk (aAx h.cpd.o12 hrg (by decide)),aA9 h.cpd.o15 hk (aAx h.cpd.o15 hrg (by decide)),aA9 h.cpd.o16 hk (aAx h.cpd.o16 hrg (by decide)),aA9 h.cpd.o21 hk (aAx h.cpd.o21 hrg (by decide)),h.cpd.d15,h.cpd.d12⟩⟩
 show World.ownsRow _ _ _ _ (.slice X.f11.a X.f11.n X.f11.c) _ _
 rw [hg]
 exact h1
theorem aV3 {w:World} {g:Nat} {x:aA1} {t:TypeId} (h:w.heap[g]?=some (.cells (cel (aA0 x)) t)) (p:Nat) (hp:p < 8):w.cell? ⟨g,979+p,none⟩=some (.int .u64 (x.f14 p)):=by
 rcases (by omega:p=0∨p=1∨p=2∨p=3∨p=4∨p=5∨p=6∨p=7) with rfl | rfl | rfl | rfl | rfl | rfl | rfl | rfl
 ·exact aO0 h
 ·exact aO1 h
 ·exact aO2 h
 ·exact aO3 h
 ·exact aO4 h
 ·exact aO5 h
 ·exact aO6 h
 ·exact aO7 h
theorem BK.sla {w V:World} {y p:Nat} {X:aA1} (v:Int) (h:BK w y V X) (hp:p < 8):BK w y (V.setCell ⟨y,979+p,none⟩ (.int .u64 v)) (s14 X p v) :=
 h.setY (979+p) (.int .u64 v) (aRT X p hp v) rfl rfl rfl rfl rfl rfl rfl
theorem aEl (X:aA1) (i:Nat) (f g:aA5→aA5):aDF (aDF X i f) i g=aDF X i fun v=>g (f v):=by
 unfold aDF
 congr 2
 funext j
 show (if j=i then g (if i=i then f (X.f11.z i) else X.f11.z i) else if j=i then f (X.f11.z i) else X.f11.z j)=_
 by_cases hj:j=i
 ·rw [if_pos hj,if_pos hj,if_pos rfl]
 ·rw [if_neg hj,if_neg hj,if_neg hj]
theorem aGr (X:aA1) (i:Nat) (f:aA5→aA5):(aDF X i f).f11.z i=f (X.f11.z i):=if_pos rfl
theorem aIY (X:aA1) (i j:Nat) (f:aA5→aA5) (h:j≠i):(aDF X i f).f11.z j=X.f11.z j:=if_neg h
theorem aOp (z:Nat→aA5) (e:Int) (h1:e+3≤18446744073709551614):∀ k,(∀ j,j < k→(z j).f6 < 18446744073709551616)→lvQ z e k≤18446744073709551614
 | 0, _ => h1
 | k + 1, h => by
  have:=aOp z e h1 k fun j hj=>h j (by omega)
  have hk:=h k (by omega)
  show (if ¬ (z k).f6=far∧lvQ z e k < (z k).f6 then (z k).f6 else lvQ z e k)≤_
  unfold far
  split<;>omega
theorem aRP {x:aA1} (h:aAD x) (h2:x.f2 < 1099511627776):x.f2 / 4+3≤lvX x∧lvX x < 18446744073709551616:=by
 have h0:=h.o2.1
 have a:=aIx x.f11.z (x.f2 / 4) (by omega) (by omega) x.f11.n fun j hj=>(h.o11 j hj).2.2.2.2.2.2.1
 have b:=aOp x.f11.z (x.f2 / 4) (by omega) x.f11.n fun j hj=>(h.o11 j hj).2.2.2.2.2.2.1.2
 unfold lvX
 split
 ·rw [aT0 (by omega) (by omega)];omega
 ·omega
structure Rg (x:aA1):Prop where
 ok:aAD x
 nb:x.f11.n≤65536
 ln:x.f12.n=x.f11.n
 ef:∀ j,j < x.f11.n→0≤(x.f11.z j).f2∧(x.f11.z j).f2≤32000000000
 sl:x.f2 < 1099511627776
theorem Rg.lk {x:aA1} {w:World} (h:Rg x) (hw:InW w x):Lk w x:=⟨hw.i11,h.nb,h.ef,h.ok.o2.1,h.sl⟩
theorem RtO.rg {x:aA1} (h:RtO x) (ho:aAD x):Rg x:=by
 refine ⟨ho,h.c0,h.c1,fun j hj=>?_,h.c7⟩
 have:=h.cv j hj
 unfold aFl at this
 simp only [Bool.and_eq_true,decide_eq_true_eq] at this
 exact ⟨(ho.o11 j hj).2.2.1.1,this.2.1⟩
theorem Rg.sim {x X:aA1} (h:Rg x) (s:aBQ x X):Rg X:=⟨aG5 s h.ok,by rw [s.l11];exact h.nb,by rw [s.l12,s.l11];exact h.ln,by rw [s.l11,s.z11];exact h.ef,by rw [s.e2];exact h.sl⟩
theorem aIe (X:aA1) (i:Nat) (f:aA5→aA5) (hf:(f (X.f11.z i)).f2=(X.f11.z i).f2) (j:Nat):((aDF X i f).f11.z j).f2=(X.f11.z j).f2:=by
 by_cases h:j=i
 ·subst h;rw [aGr];exact hf
 ·rw [aIY _ _ _ _ h]
theorem aFV (X:aA1) (i j:Nat):((lvS X i).f11.z j).f2=(X.f11.z j).f2:=by
 unfold lvS
 split
 ·exact aIe X i (lvV (lvX X)) rfl j
 ·rfl
theorem aEV (X:aA1) (i j:Nat):((slA X i).f11.z j).f2=(X.f11.z j).f2:=by
 unfold slA
 rw [aIe _ _ _ rfl,aFV]
theorem aI6 (X:aA1) (i:Nat) (f:aA5→aA5) (e:Int) (hf:aEz (f (X.f11.z i)) e=aEz (X.f11.z i) e) (j:Nat):aEz ((aDF X i f).f11.z j) e=aEz (X.f11.z j) e:=by
 by_cases h:j=i
 ·subst h;rw [aGr];exact hf
 ·rw [aIY _ _ _ _ h]
theorem aOP {X:aA1} (h:aAD X) (h2:X.f2 < 1099511627776) (i j:Nat):aEz ((lvS X i).f11.z j) (X.f2 / 4)=aEz (X.f11.z j) (X.f2 / 4):=by
 unfold lvS
 split
 ·rename_i hf
  refine aI6 X i (lvV (lvX X)) _ ?_ j
  have:=aRP h h2
  have h0:=h.o2.1
  unfold aEz
  show (decide ((X.f11.z i).f5≤X.f2 / 4) && decide (X.f2 / 4 < lvX X))=_
  rw [hf,decide_eq_true (by omega:X.f2 / 4 < lvX X),decide_eq_true (by unfold far;omega:X.f2 / 4 < far)]
 ·rfl
theorem aOQ {X:aA1} (h:aAD X) (h2:X.f2 < 1099511627776) (i j:Nat):aEz ((slA X i).f11.z j) (X.f2 / 4)=aEz (X.f11.z j) (X.f2 / 4):=by
 unfold slA
 rw [aI6 _ _ _ _ rfl,aOP h h2]
theorem aFt {z z':Nat→aA5} {e:Int} (h:∀ j,aEz (z j) e=aEz (z' j) e):∀ n,acL z e n=acL z' e n
 | 0 => rfl
 | n + 1 => by
  show (if aEz (z n) e=true then acL z e n++_ else acL z e n)=(if aEz (z' n) e=true then acL z' e n++_ else acL z' e n)
  rw [h,aFt h n]
theorem aKX {Y Z:aA1} (h2:Z.f2=Y.f2) (h13:Z.f13=Y.f13) (hn:Z.f11.n=Y.f11.n) (hz:∀ j,(Z.f11.z j).f2=(Y.f11.z j).f2∧aEz (Z.f11.z j) (Y.f2 / 4)=aEz (Y.f11.z j) (Y.f2 / 4)):prV Z=prV Y∧prE Z=prE Y:=by
 have hs:∀ e k,aCP Z e k=aCP Y e k:=fun e k=>by unfold aCP aIz;rw [h13]
 have hp:prS Z=prS Y:=by unfold prS;rw [hs,h2]
 have ha:acE Z (Y.f2 / 4)=acE Y (Y.f2 / 4):=by unfold acE;rw [hn];exact aFt (fun j=>(hz j).2) _
 have hd:=aMG (fun j=>(hz j).1) (acE Y (Y.f2 / 4)) (prS Y) 1
 unfold prV prL prE
 rw [h2,ha,hp,hd.1,hd.2]
 exact ⟨rfl,rfl⟩
theorem aKI (X:aA1) (i:Nat):(lvS X i).f2=X.f2∧(lvS X i).f13=X.f13∧(lvS X i).f11.n=X.f11.n∧(lvS X i).f12=X.f12∧(lvS X i).f14=X.f14∧(lvS X i).f11.a=X.f11.a∧(lvS X i).f11.c=X.f11.c:=by
 unfold lvS
 split<;>exact ⟨rfl,rfl,rfl,rfl,rfl,rfl,rfl⟩
theorem aFr (X:aA1) (i:Nat):(slA X i).f2=X.f2∧(slA X i).f13=X.f13∧(slA X i).f11.n=X.f11.n∧(slA X i).f12=X.f12∧(slA X i).f14=X.f14∧(slA X i).f11.a=X.f11.a∧(slA X i).f11.c=X.f11.c:=aKI X i
theorem aOy {X:aA1} (h:aAD X) (h2:X.f2 < 1099511627776) (i:Nat):prV (slC X i)=prV X∧prE (slC X i)=prE X :=
 aKX (aFr X i).1 (aFr X i).2.1 (aFr X i).2.2.1 fun j=>⟨aEV X i j,aOQ h h2 i j⟩
theorem Rg.lv {X:aA1} (h:Rg X) (i:Nat):Rg (lvS X i):=by
 obtain ⟨a,b,c,d,e,f,g⟩:=aKI X i
 exact ⟨aPE h.ok h.sl i,by rw [c];exact h.nb,by rw [c,d];exact h.ln,fun j hj=>by rw [aFV];exact h.ef j (by rw [←c];exact hj),by rw [a];exact h.sl⟩
theorem Rg.a {X:aA1} (h:Rg X) (i:Nat):Rg (slA X i):=by
 obtain ⟨a,b,c,d,e,f,g⟩:=aFr X i
 exact ⟨aS3 h.ok h.sl i,by rw [c];exact h.nb,by rw [c,d];exact h.ln,fun j hj=>by rw [aEV];exact h.ef j (by rw [←c];exact hj),by rw [a];exact h.sl⟩
theorem Rg.b {X:aA1} (h:Rg X) (i:Nat):Rg (slB X i):=⟨aTG (h.a i).ok _ _ (aHk _),(h.a i).nb,(h.a i).ln,(h.a i).ef,(h.a i).sl⟩
theorem Rg.bal {X:aA1} (h:Rg X) (i:Nat) (v:Int) (hv:0≤v∧v < 18446744073709551616):Rg (aHl X i v):=⟨aS2 h.ok i v hv,h.nb,h.ln,h.ef,h.sl⟩
theorem Rg.c {X:aA1} (h:Rg X) (i:Nat) (hi:i < X.f11.n):Rg (slC X i):=by
 have hb:=h.b i
 have hi2:i < (slB X i).f12.n:=by
  have e1:=hb.ln
  have e2:(slB X i).f11.n=X.f11.n:=(aFr X i).2.2.1
  omega
 have e:=h.ef i hi
 exact hb.bal i _ (aRG (hb.ok.o12 i hi2).1 (hb.ok.o12 i hi2).2 (by unfold aJ9;omega))
theorem aPL {X:aA1} (h0:prE X=0):∃ p:Nat,prV X=(p:Int)∧p < X.f11.n:=by
 rcases aKi X.f11.z (acE X (X.f2 / 4)) (prS X) 1 with ⟨a,b,c⟩ | ⟨a,b⟩
 ·have h6:=c _ (aFX _ 0 (by rw [b];omega))
  obtain ⟨q0,q1,_⟩:=(aJO _ _ _ _).1 h6
  refine ⟨(prV X).toNat,?_,?_⟩
  ·have:0≤prV X:=q0
   omega
  ·have:prV X < (X.f11.n:Int):=q1
   have:0≤prV X:=q0
   omega
 ·exfalso
  have:prE X=7:=a
  omega
def aEw (X:aA1) (i p:Nat):aA1:=aHl (slC X i) p (w64 ((slC X i).f12.z p+aJ9 X i / 512))
theorem aHg {X:aA1} (h:aAD X) (h2:X.f2 < 1099511627776) (i:Nat) (h0:prE X=0):slS X i=aEw X i (prV X).toNat:=by
 have:=aOy h h2 i
 unfold slS slE slP aEw
 rw [this.2,if_pos h0,this.1]
theorem Rg.o {X:aA1} (h:Rg X) (i p:Nat) (hi:i < X.f11.n):Rg (aEw X i p):=(h.c i hi).bal p _ (aHk _)
theorem Rg.s {X:aA1} (h:Rg X) (i:Nat) (hi:i < X.f11.n):Rg (slS X i):=by
 unfold slS
 split
 ·exact (h.c i hi).bal _ _ (aHk _)
 ·exact h.c i hi
def lqE (x:aA1) (i:Int):Int:=if aAN x=true∧i < (x.f11.n:Int) then (if aAN (lvS x i.toNat)=true then 0 else 2) else 1
def lqS (x:aA1) (i:Int):aA1:=if lqE x i=0 then lvS x i.toNat else aAn
def sqE (x:aA1) (i:Int):Int:=if aAN x=true∧i < (x.f11.n:Int) then (if prE x=0 then (if aAN (slS x i.toNat)=true then 0 else 2) else prE x) else 1
def sqS (x:aA1) (i:Int):aA1:=if sqE x i=0 then slS x i.toNat else aAn
theorem aKW {x X:aA1} (h:aBQ x X):prE X=prE x:=aRt (fun x=>(aGU x).1) h
theorem aLB {x X:aA1} (h:aBQ x X) (i:Int):sqE X i=sqE x i:=by unfold sqE;rw [aFB h,h.l11,aFB (aGj i.toNat h),aKW h]
theorem aLC {x X:aA1} (h:aBQ x X) (i:Int):aBQ (sqS x i) (sqS X i):=by
 unfold sqS
 rw [aLB h]
 split
 ·exact aGj _ h
 ·exact aBQ.refl _
theorem aFc {x:aA1} (h:aAN x=true):Lns x:=by
 have:=aDf h
 unfold Lns
 omega
end
section
open Go.RowKit
set_option linter.unusedVariables false
set_option linter.unusedSimpArgs false
set_option maxRecDepth 20000
structure Vl (y g:Nat) (W:World) (X:aA1):Prop where
 c11:W.cell? ⟨y,721,none⟩=some (.slice (some ⟨g,0,none⟩) X.f11.n X.f11.c)
 row:∃ C,W.heap[g]?=some (.cells C 65)
 at_:∀ k,k < X.f11.n→W.rangeAt g (86*k) (aAW (aA3 (X.f11.z k)))
theorem BK.vl {w V:World} {y g:Nat} {X:aA1} (h:BK w y V X) (hg:X.f11.a=some ⟨g,0,none⟩):Vl y g V X:=by
 have c:=aFv h.row
 rw [hg] at c
 have o:=h.cpd.o11
 rw [hg] at o
 refine ⟨c,(aF7 o).2,fun k hk=>?_⟩
 rcases h.inW.i11 with h0 | ⟨b,off,ea,_,hr⟩
 ·omega
 ·rw [hg] at ea
  cases ea
  have:=hr k hk
  rw [Nat.zero_add] at this
  exact this
theorem aTw (W:World) (g n c k:Nat) (h:k < n):(aC1 (.slice (some ⟨g,0,none⟩) n c) (.int .i64 k)).run Tryz.prog W=.ok (.pointer (some ⟨g,86*k,none⟩)) W:=by
 have:=aB7 W g 0 n c k h
 rw [Nat.zero_add] at this
 exact this
theorem aMR (W:World) (g n c k:Nat) (h:k < n):(aC1 (.slice (some ⟨g,0,none⟩) n c) (.int .u64 k)).run Tryz.prog W=.ok (.pointer (some ⟨g,86*k,none⟩)) W:=by
 have:=aBf W g 0 n c k h
 rw [Nat.zero_add] at this
 exact this
theorem aEI {w:World} {b o:Nat} {v:aA5} (h:w.rangeAt b o (aAW (aA3 v))):w.cell? ⟨b,o+84,none⟩=some (.int .u64 v.f6):=h 84 _ rfl
theorem aIZ {w:World} {b o:Nat} {v:aA5} (h:w.rangeAt b o (aAW (aA3 v))):w.cell? ⟨b,o+85,none⟩=some (.int .u64 v.f7):=h 85 _ rfl
theorem aON {w:World} {b o:Nat} {v:aA5} (h:w.rangeAt b o (aAW (aA3 v))):w.cell? ⟨b,o+81,none⟩=some (.bool v.f3):=h 81 _ rfl
attribute [local go_sem ↓] aAq aAr aAi aAl aAw
set_option maxHeartbeats 4000000 in
theorem aH0 (X : aA1) (i y : Nat) (w V : World) (hb : BK w y V X) (hR : Rg X) (hi : i < X.f11.n) :
    Calls Tryz.prog 56 #[.pointer (some ⟨y,0,none⟩),.int .u64 i] V fun e' V'=>e'=.returned (.tuple #[])∧BK w y V' (lvS X i):=by
 obtain ⟨g,hg⟩:=aCV hb.cpd.o11 (by omega)
 have hvl:=hb.vl hg
 have c0:=hvl.c11
 have e0:=aEI (hvl.at_ i hi)
 have ix:=fun W=>aMR W g X.f11.n X.f11.c i hi
 by_cases hf:(X.f11.z i).f6=far
 ·have hE:lvS X i=aDF X i (lvV (lvX X)):=if_pos hf
  have hep:=aD6 X V hR.ok.o2.1 hR.sl
  have ld:=aAg hb.row
  have h2:=hR.ok.o2.1
  have h2':=hR.sl
  rw [hf] at e0
  unfold far at e0
  have HB:=hid hb
  have HR:=hid hR
  have HG:=hid hg
  have HE:=hid hE
  obtain ⟨E,eE⟩:∃ E,X.f2 / 4=E:=⟨_,rfl⟩
  have hE0:0≤E:=by omega
  have hE1:E < 274877906944:=by omega
  rw [eE] at hep
  have EE:=hid eE
  have HEP:=hid hep
  have k1:IntKind.u64.wrap (E+1)=E+1:=by rw [IntKind.wrap_u64];omega
  have k2:IntKind.u64.wrap (E+1+2)=E+3:=by rw [IntKind.wrap_u64];omega
  clear hb hvl hf hE hep hg eE h2 h2' hR
  go_enter Tryz.func56,Tryz.ntmps56
  go_upto_region 2 with (go_at_call 22;refine HEP.out.mono ?_;rintro e' w1 ⟨rfl,hb1⟩)
  have hB1:=HB.out.below hb1
  have hvl:=hB1.vl HG.out
  have c1:=hvl.c11
  have cel:=fun k (hk:k < X.f11.n)=>aEI (hvl.at_ k hk)
  have ixi:=fun W k (hk:k < X.f11.n)=>aTw W g X.f11.n X.f11.c k hk
  have nb:=HR.out.nb
  have hq:∀ k,k≤X.f11.n→E+3≤lvQ X.f11.z E k∧lvQ X.f11.z E k < 18446744073709551616:=fun k hk=>aIx X.f11.z E hE0 (by omega) k fun j hj=>(HR.out.ok.o11 j (by omega)).2.2.2.2.2.2.1
  have HB1:=hid hB1
  have HC1:=hid c1
  have CEL:=hid cel
  have IXI:=hid ixi
  have HQ:=hid hq
  have NB:=hid nb
  have IX:=hid ix
  have hlx:lvX X=if aJL X≤(lvN X.f11.z (lvQ X.f11.z E X.f11.n) X.f11.n:Int) then w64 (lvQ X.f11.z E X.f11.n+1) else lvQ X.f11.z E X.f11.n:=by rw [←EE.out];rfl
  have HLX:=hid hlx
  have hch:=aJn X w1 (HR.out.lk hB1.inW)
  have HCH:=hid hch
  have ld1:=aAg hB1.row
  have LD1:=hid ld1
  have HI:=hid hi
  obtain ⟨n,en⟩:∃ n,X.f11.n=n:=⟨_,rfl⟩
  obtain ⟨z,ez⟩:∃ z,X.f11.z=z:=⟨_,rfl⟩
  obtain ⟨C,eC⟩:∃ C,X.f11.c=C:=⟨_,rfl⟩
  rw [en,ez] at HLX HQ CEL
  rw [en,eC] at HC1 IXI IX
  rw [en] at NB HI
  have EN:=hid en
  have EZ:=hid ez
  have EC:=hid eC
  clear hB1 hvl c1 cel ixi hq nb ix hlx hch ld1 hi e0 c0 ld hb1 en ez eC HEP k1 k2
  have c1:=HC1.out
  go_wp2
  go_loopw [4,5] (fun q c wr=>∃ k:Nat,k≤n∧q=.int .u64 (lvQ z E k)∧c=.int .i64 k∧wr=w1) (fun _ c _=>n - (intOf c).toNat)
  case atStart=>exact ⟨0,by omega,rfl,rfl,rfl⟩
  case round =>
   obtain ⟨k,hk,rfl,rfl,hw⟩:=hrel
   obtain rfl:=hw.symm
   have hst:lvQ z E (k+1)=if ¬ (z k).f6=far∧lvQ z E k < (z k).f6 then (z k).f6 else lvQ z E k:=rfl
   have HST:=hid hst
   clear hst
   by_cases hkn:k < n
   ·have k1:(k:Int) < (n:Int):=by omega
    have kw:IntKind.i64.wrap ((k:Int)+1)=(k:Int)+1:=by have:=NB.out;rw [IntKind.wrap_i64];omega
    have ck:=CEL.out k hkn
    have ik:=fun W=>IXI.out W k hkn
    obtain ⟨F,eF⟩:∃ F,(z k).f6=F:=⟨_,rfl⟩
    obtain ⟨Q,eQ⟩:∃ Q,lvQ z E k=Q:=⟨_,rfl⟩
    rw [eF] at ck HST
    rw [eQ] at HST ⊢
    clear eF eQ
    unfold far at HST
    by_cases hF:F=18446744073709551615
    ·subst hF
     go_wp2
     go_roundw
     case rel=>exact ⟨k+1,by omega,by rw [HST.out,if_neg (fun h=>h.1 rfl)],by go_num,trivial⟩
     case measure=>simp [intOf];omega
    ·have hF2:(F != 18446744073709551615)=true:=by simp [hF]
     by_cases hG:Q < F
     ·go_wp2
      go_roundw
      case rel=>exact ⟨k+1,by omega,by rw [HST.out,if_pos ⟨hF,hG⟩],by go_num,trivial⟩
      case measure=>simp [intOf];omega
     ·have hG2:F≤Q:=by omega
      go_wp2
      go_roundw
      case rel=>exact ⟨k+1,by omega,by rw [HST.out,if_neg (fun h=>hG h.2)],by go_num,trivial⟩
      case measure=>simp [intOf];omega
   ·obtain rfl:k=n:=by omega
    have kN:¬ (k:Int) < (k:Int):=by omega
    obtain ⟨Q,eQ⟩:∃ Q,lvQ z E k=Q:=⟨_,rfl⟩
    have hQb:=HQ.out k (Nat.le_refl _)
    rw [eQ] at hQb HLX ⊢
    clear HST eQ HQ
    have HQB:=hid hQb
    clear hQb
    go_wp2
    go_loopw [7,8] (fun q c wr=>∃ m:Nat,m≤k∧q=.int .u64 (lvN z Q m:Nat)∧c=.int .i64 m∧wr=w1) (fun _ c _=>k - (intOf c).toNat)
    case atStart=>exact ⟨0,by omega,rfl,rfl,rfl⟩
    case round =>
     obtain ⟨m,hm,rfl,rfl,hw⟩:=hrel
     obtain rfl:=hw.symm
     have hst:lvN z Q (m+1)=lvN z Q m+(if (z m).f6=Q then 1 else 0):=rfl
     have hle:=aKG z Q m
     have HST:=hid hst
     clear hst
     by_cases hmn:m < k
     ·have k1:(m:Int) < (k:Int):=by omega
      have kw:IntKind.i64.wrap ((m:Int)+1)=(m:Int)+1:=by have:=NB.out;rw [IntKind.wrap_i64];omega
      have ck:=CEL.out m hmn
      have ik:=fun W=>IXI.out W m hmn
      obtain ⟨F,eF⟩:∃ F,(z m).f6=F:=⟨_,rfl⟩
      obtain ⟨N,eN⟩:∃ N,lvN z Q m=N:=⟨_,rfl⟩
      rw [eF] at ck HST
      rw [eN] at HST hle ⊢
      have kw2:IntKind.u64.wrap ((N:Int)+1)=(N:Int)+1:=by have:=NB.out;rw [IntKind.wrap_u64];omega
      clear eF eN hle
      by_cases hF:F=Q
      ·subst hF
       go_wp2
       go_roundw
       case rel=>exact ⟨m+1,by omega,by rw [HST.out,if_pos rfl];go_num,by go_num,trivial⟩
       case measure=>simp [intOf];omega
      ·have hF2:(F == Q)=false:=by simp [hF]
       go_wp2
       go_roundw
       case rel=>exact ⟨m+1,by omega,by rw [HST.out,if_neg hF];go_num,by go_num,trivial⟩
       case measure=>simp [intOf];omega
     ·obtain rfl:m=k:=by omega
      have kM:¬ (m:Int) < (m:Int):=by omega
      obtain ⟨N,eN⟩:∃ N,lvN z Q m=N:=⟨_,rfl⟩
      obtain ⟨CH,eCH⟩:∃ CH,aJL X=CH:=⟨_,rfl⟩
      obtain ⟨L,eL⟩:∃ L,lvX X=L:=⟨_,rfl⟩
      rw [eN] at HLX ⊢
      rw [eCH] at HLX HCH
      rw [eL] at HLX HE
      clear HST eN eCH hle
      have ld1:=LD1.out
      by_cases hC:CH≤(N:Int)
      ·have kq:IntKind.u64.wrap (Q+1)=L:=by have:=HLX.out;rw [if_pos hC] at this;exact this.symm
       have kl:IntKind.u64.wrap (L+2)=w64 (L+2):=rfl
       go_upto_region 16 with (go_at_call 94;refine HCH.out.mono ?_;rintro e' w2 ⟨rfl,hb2⟩)
       have hB2:=HB1.out.below hb2
       have hv2:=hB2.vl HG.out
       have c2:=hv2.c11
       rw [EN.out,EC.out] at c2
       have ci:=aEI (hv2.at_ i (by rw [EN.out];exact HI.out))
       obtain ⟨RC,hRC⟩:=hv2.row
       have fi:=aAa hRC (86*i+84)
       have ixi:=fun W=>IX.out W
       have hB3:=hB2.val (fun v=>{ v with f6:=L }) (.int .u64 L) (aGs _ L) (by omega) HG.out (by rw [EN.out];exact HI.out)
       have HB3:=hid hB3
       clear hB2 hv2 hRC hB3 hb2 c1 ld1
       go_upto_region 17 with fail
       obtain ⟨W3,hW3⟩:∃ W,w2.setCell ⟨g,86*i+84,none⟩ (.int .u64 L)=W:=⟨_,rfl⟩
       rw [hW3] at HB3 ⊢
       clear hW3 c2 ci fi
       have hv3:=HB3.out.vl (X:=aDF X i _) HG.out
       have c3:W3.cell? ⟨y,721,none⟩=some (.slice (some ⟨g,0,none⟩) m C):=by
        have:=hv3.c11
        rw [show (aDF X i fun v=>{ v with f6:=L }).f11.n=X.f11.n from rfl,show (aDF X i fun v=>{ v with f6:=L }).f11.c=X.f11.c from rfl,EN.out,EC.out] at this
        exact this
       have hi3:i < (aDF X i fun v=>{ v with f6:=L }).f11.n:=by show i < X.f11.n;rw [EN.out];exact HI.out
       have ci:=aIZ (hv3.at_ i hi3)
       obtain ⟨RC,hRC⟩:=hv3.row
       have fi:=aAa hRC (86*i+85)
       have hB4:=HB3.out.val (fun v=>{ v with f7:=w64 (L+2) }) (.int .u64 (w64 (L+2))) (aEm _ _) (by omega) HG.out hi3
       rw [aEl] at hB4
       have HB4:=hid hB4
       clear hv3 hRC hB4 HB3 hi3
       go_wp2
       go_end0
       refine ⟨rfl,?_⟩
       rw [HE.out]
       exact HB4.out
      ·have kq:Q=L:=by have:=HLX.out;rw [if_neg hC] at this;exact this.symm
       subst kq
       have kl:IntKind.u64.wrap (Q+2)=w64 (Q+2):=rfl
       go_upto_region 16 with (go_at_call 94;refine HCH.out.mono ?_;rintro e' w2 ⟨rfl,hb2⟩)
       have hB2:=HB1.out.below hb2
       have hv2:=hB2.vl HG.out
       have c2:=hv2.c11
       rw [EN.out,EC.out] at c2
       have ci:=aEI (hv2.at_ i (by rw [EN.out];exact HI.out))
       obtain ⟨RC,hRC⟩:=hv2.row
       have fi:=aAa hRC (86*i+84)
       have ixi:=fun W=>IX.out W
       have hB3:=hB2.val (fun v=>{ v with f6:=Q }) (.int .u64 Q) (aGs _ Q) (by omega) HG.out (by rw [EN.out];exact HI.out)
       have HB3:=hid hB3
       clear hB2 hv2 hRC hB3 hb2 c1 ld1
       go_upto_region 17 with fail
       obtain ⟨W3,hW3⟩:∃ W,w2.setCell ⟨g,86*i+84,none⟩ (.int .u64 Q)=W:=⟨_,rfl⟩
       rw [hW3] at HB3 ⊢
       clear hW3 c2 ci fi
       have hv3:=HB3.out.vl (X:=aDF X i _) HG.out
       have c3:W3.cell? ⟨y,721,none⟩=some (.slice (some ⟨g,0,none⟩) m C):=by
        have:=hv3.c11
        rw [show (aDF X i fun v=>{ v with f6:=Q }).f11.n=X.f11.n from rfl,show (aDF X i fun v=>{ v with f6:=Q }).f11.c=X.f11.c from rfl,EN.out,EC.out] at this
        exact this
       have hi3:i < (aDF X i fun v=>{ v with f6:=Q }).f11.n:=by show i < X.f11.n;rw [EN.out];exact HI.out
       have ci:=aIZ (hv3.at_ i hi3)
       obtain ⟨RC,hRC⟩:=hv3.row
       have fi:=aAa hRC (86*i+85)
       have hB4:=HB3.out.val (fun v=>{ v with f7:=w64 (Q+2) }) (.int .u64 (w64 (Q+2))) (aEm _ _) (by omega) HG.out hi3
       rw [aEl] at hB4
       have HB4:=hid hB4
       clear hv3 hRC hB4 HB3 hi3
       go_wp2
       go_end0
       refine ⟨rfl,?_⟩
       rw [HE.out]
       exact HB4.out
 ·have hE:lvS X i=X:=if_neg hf
  have HB:=hid hb
  obtain ⟨F,eF⟩:∃ F,(X.f11.z i).f6=F:=⟨_,rfl⟩
  rw [eF] at hf e0
  unfold far at hf
  have hf2:(F != 18446744073709551615)=true:=by simp [hf]
  rw [hE]
  clear hb hvl hE hR eF hg
  generalize X.f11.n=n at *
  generalize X.f11.c=C at *
  go_enter Tryz.func56,Tryz.ntmps56
  go_wp2
  exact bodyPost_ret (results_none rfl _ _ _) rfl ⟨rfl,HB.out⟩
end
end Go.Proofs.YtdjplhibmomajaaGreatDoor
