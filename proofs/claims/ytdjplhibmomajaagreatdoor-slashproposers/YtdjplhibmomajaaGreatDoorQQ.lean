/- A part. -/
import Derived.Test.YtdjplhibmomajaaGreatDoorQK
import Derived.Test.YtdjplhibmomajaaGreatDoorQJ
import Derived.Test.YtdjplhibmomajaaGreatDoorQF
import Derived.Test.YtdjplhibmomajaaGreatDoorQN
import Derived.Test.YtdjplhibmomajaaGreatDoorQS
import Derived.Test.YtdjplhibmomajaaGreatDoorQG
import Derived.Test.YtdjplhibmomajaaGreatDoorPkD
namespace Go.Proofs.YtdjplhibmomajaaGreatDoor
open Go.RowKit
set_option linter.unusedVariables false
set_option linter.unusedSimpArgs false
section
open Go.RowKit
set_option linter.unusedVariables false
set_option linter.unusedSimpArgs false
set_option maxRecDepth 20000
structure BK (w:World) (y:Nat) (V:World) (Y:aA1):Prop where
 kep:Kept y w V
 row:V.heap[y]?=some (.cells (cel (aA0 Y)) 49)
 cpd:aEJ w.heap.size V Y
theorem BK.below {w V V':World} {y:Nat} {Y:aA1} (h:BK w y V Y) (hb:Up V V'):BK w y V' Y:=⟨h.kep.trans (Kept.ofBelow hb),upR hb h.row,h.cpd.below hb⟩
theorem BK.drew {w V:World} {y:Nat} {Y:aA1} (h:BK w y V Y):BK w y V.drew Y:=h.below ((Below.refl _ _).drew)
theorem BK.inW {w V:World} {y:Nat} {Y:aA1} (h:BK w y V Y):InW V Y :=
 ⟨aCD h.cpd.o7,aCY h.cpd.o9 (fun i=>by rw [aAC];rfl),aCY h.cpd.o11 (fun i=>by rw [aAC];rfl),aCZ h.cpd.o12,aCO h.cpd.o15,aCO h.cpd.o16,aCZ h.cpd.o21⟩
theorem BK.old {w V:World} {y k:Nat} {Y:aA1} {o:Obj} (h:BK w y V Y) (r:w.heap[k]?=some o) (hk:k≠y):V.heap[k]?=some o:=(h.kep.block k (Array.getElem?_eq_some_iff.1 r).1 hk).trans r
theorem BK.setY {w V:World} {y:Nat} {Y Y':aA1} (h:BK w y V Y) (i:Nat) (v:Value) (he:(cel (aA0 Y)).setIfInBounds i v=cel (aA0 Y')) (e7:Y'.f7=Y.f7) (e9:Y'.f9=Y.f9) (e11:Y'.f11=Y.f11) (e12:Y'.f12=Y.f12) (e15:Y'.f15=Y.f15) (e16:Y'.f16=Y.f16) (e21:Y'.f21=Y.f21):BK w y (V.setCell ⟨y,i,none⟩ v) Y':=by
 have hk:Kept y V (V.setCell ⟨y,i,none⟩ v):=(Kept.refl y V).setCell _ _
 refine ⟨h.kep.trans hk,(aAI h.row i v).trans (congrArg (fun c=>some (Obj.cells c 49)) he),⟨?_,?_,?_,?_,?_,?_,?_,?_,?_⟩⟩
 ·rw [e7];exact aA9 h.cpd.o7 hk (aAx h.cpd.o7 h.row (by decide))
 ·rw [e9];exact aA9 h.cpd.o9 hk (aAx h.cpd.o9 h.row (by decide))
 ·rw [e11];exact aA9 h.cpd.o11 hk (aAx h.cpd.o11 h.row (by decide))
 ·rw [e12];exact aA9 h.cpd.o12 hk (aAx h.cpd.o12 h.row (by decide))
 ·rw [e15];exact aA9 h.cpd.o15 hk (aAx h.cpd.o15 h.row (by decide))
 ·rw [e16];exact aA9 h.cpd.o16 hk (aAx h.cpd.o16 h.row (by decide))
 ·rw [e21];exact aA9 h.cpd.o21 hk (aAx h.cpd.o21 h.row (by decide))
 ·rw [e15,e16];exact h.cpd.d15
 ·rw [e12,e21];exact h.cpd.d12
theorem aIq {w V:World} {y g:Nat} (h:Kept y w V) (hg:w.heap.size≤g) (i:Nat) (v:Value):Kept y w (V.setCell ⟨g,i,none⟩ v):=by
 have hk:Kept g V (V.setCell ⟨g,i,none⟩ v):=(Kept.refl g V).setCell _ _
 exact ⟨hk.os.trans h.os,hk.tape.trans h.tape,hk.output.trans h.output,Nat.le_trans h.size hk.size,fun k hk1 hn=>(hk.block k (Nat.lt_of_lt_of_le hk1 h.size) (by omega)).trans (h.block k hk1 hn)⟩
theorem aF7 {w:World} {B k g n cap:Nat} {t:TypeId} {xs:List Value} (h:w.ownsRow B t k (.slice (some ⟨g,0,none⟩) n cap) n xs):B≤g∧∃ C,w.heap[g]?=some (.cells C t):=by
 rcases h.2 with ⟨e,_⟩ | ⟨g',cap',cur,e,h1,h2,_⟩
 ·cases e
 ·cases e
  exact ⟨h1,cur,h2⟩
theorem aCV {w:World} {B k n cap:Nat} {t:TypeId} {a:Option Addr} {xs:List Value} (h:w.ownsRow B t k (.slice a n cap) n xs) (hn:0 < n):∃ g,a=some ⟨g,0,none⟩:=by
 rcases h.2 with ⟨e,h0⟩ | ⟨g',cap',cur,e,_⟩
 ·omega
 ·cases e
  exact ⟨g',rfl⟩
def aDF (X:aA1) (i:Nat) (f:aA5→aA5):aA1:={ X with f11:=⟨X.f11.a,X.f11.n,X.f11.c,fun j=>if j=i then f (X.f11.z i) else X.f11.z j⟩ }
theorem BK.val {w V:World} {y i g p:Nat} {X:aA1} (f:aA5→aA5) (u:Value) (hf:(aAW (aA3 (X.f11.z i))).set p u=aAW (aA3 (f (X.f11.z i)))) (hp:p < 86) (h:BK w y V X) (hg:X.f11.a=some ⟨g,0,none⟩) (hi:i < X.f11.n):BK w y (V.setCell ⟨g,86*i+p,none⟩ u) (aDF X i f):=by
 have o11:=h.cpd.o11
 rw [hg] at o11
 obtain ⟨hB,C,hrg⟩:=aF7 o11
 have hb:i*86+p < X.f11.n*86:=by
  have:i*86+86≤X.f11.n*86:=by
   rw [←Nat.succ_mul]
   exact Nat.mul_le_mul_right _ hi
  omega
 have h1:=aHO o11 (i*86+p) hb u
 rw [aIj (fun j=>by rw [aAC];rfl) X.f11.n i p hi hp,Nat.mul_comm i 86] at h1
 have e:(fun j=>if j=i then (aAW (aA3 (X.f11.z i))).set p u else aAW (aA3 (X.f11.z j)))=fun j=>aAW (aA3 ((aDF X i f).f11.z j)):=funext fun j=>by
  show _=aAW (aA3 (if j=i then f (X.f11.z i) else X.f11.z j))
  by_cases hj:j=i
  ·rw [if_pos hj,if_pos hj,hf]
  ·rw [if_neg hj,if_neg hj]
 rw [e] at h1
 have hk:Kept g V (V.setCell ⟨g,86*i+p,none⟩ u):=(Kept.refl g V).setCell _ _
 have hne:y≠g:=fun e=>by
  subst e
  rw [h.row] at hrg
  injection hrg with q
  injection q with _ q2
  exact absurd q2 (by decide)
 refine ⟨aIq h.kep hB _ _,(hk.block y (aB0 h.row) hne).trans h.row,⟨aA9 h.cpd.o7 hk (aAx h.cpd.o7 hrg (by decide)),aA9 h.cpd.o9 hk (aAx h.cpd.o9 hrg (by decide)),?_,aA9 h.cpd.o12 hk (aAx h.cpd.o12 hrg (by decide)),aA9 h.cpd.o15 hk (aAx h.cpd.o15 hrg (by decide)),aA9 h.cpd.o16 hk (aAx h.cpd.o16 hrg (by decide)),aA9 h.cpd.o21 hk (aAx h.cpd.o21 hrg (by decide)),h.cpd.d15,h.cpd.d12⟩⟩
 show World.ownsRow _ _ _ _ (.slice X.f11.a X.f11.n X.f11.c) _ _
 rw [hg]
 exact h1
def aHl (X:aA1) (i:Nat) (v:Int):aA1:={ X with f12:=⟨X.f12.a,X.f12.n,X.f12.c,fun j=>if j=i then v else X.f12.z j⟩ }
theorem BK.bal {w V:World} {y i g:Nat} {X:aA1} (v:Int) (h:BK w y V X) (hg:X.f12.a=some ⟨g,0,none⟩) (hi:i < X.f12.n):BK w y (V.setCell ⟨g,i,none⟩ (.int .u64 v)) (aHl X i v):=by
 have o12:=h.cpd.o12
 rw [hg] at o12
 obtain ⟨hB,C,hrg⟩:=aF7 o12
 have h1:=aHO o12 i (by omega) (.int .u64 v)
 rw [aS0] at h1
 have hk:Kept g V (V.setCell ⟨g,i,none⟩ (.int .u64 v)):=(Kept.refl g V).setCell _ _
 have hne:y≠g:=fun e=>by
  subst e
  rw [h.row] at hrg
  injection hrg with q
  injection q with _ q2
  exact absurd q2 (by decide)
 have hd:(Value.slice X.f21.a X.f21.n X.f21.c).ownBlock≠some g:=fun e=>by
  cases ha:X.f21.a with
  | none => rw [ha] at e; cases e
  | some ad =>
   rw [ha] at e
   have:=h.cpd.d12 _ ad hg ha
   exact this (Option.some.inj e).symm
 refine ⟨aIq h.kep hB _ _,(hk.block y (aB0 h.row) hne).trans h.row,⟨aA9 h.cpd.o7 hk (aAx h.cpd.o7 hrg (by decide)),aA9 h.cpd.o9 hk (aAx h.cpd.o9 hrg (by decide)),aA9 h.cpd.o11 hk (aAx h.cpd.o11 hrg (by decide)),?_,aA9 h.cpd.o15 hk (aAx h.cpd.o15 hrg (by decide)),aA9 h.cpd.o16 hk (aAx h.cpd.o16 hrg (by decide)),?_,h.cpd.d15,h.cpd.d12⟩⟩
 ·show World.ownsRow _ _ _ _ (.slice X.f12.a X.f12.n X.f12.c) _ _
  rw [hg]
  exact h1
 ·exact aA9 h.cpd.o21 hk hd
theorem aJ0 (v:aA5) (x:Bool):(aAW (aA3 v)).set 81 (.bool x)=aAW (aA3 { v with f3:=x }):=by
 show ((List.range 48).map (Seg.get (.by 48 v.f0))++((List.range 32).map (Seg.get (.by 32 v.f1))++(Value.int .u64 v.f2 :: Value.bool v.f3 :: Value.int .u64 v.f4 :: Value.int .u64 v.f5 :: Value.int .u64 v.f6 :: [Value.int .u64 v.f7]))).set 81 _=(List.range 48).map (Seg.get (.by 48 v.f0))++((List.range 32).map (Seg.get (.by 32 v.f1))++(Value.int .u64 v.f2 :: Value.bool x :: Value.int .u64 v.f4 :: Value.int .u64 v.f5 :: Value.int .u64 v.f6 :: [Value.int .u64 v.f7]))
 rw [List.set_append_right _ _ (by simp),List.set_append_right _ _ (by simp)]
 simp
theorem aGs (v:aA5) (x:Int):(aAW (aA3 v)).set 84 (.int .u64 x)=aAW (aA3 { v with f6:=x }):=by
 show ((List.range 48).map (Seg.get (.by 48 v.f0))++((List.range 32).map (Seg.get (.by 32 v.f1))++(Value.int .u64 v.f2 :: Value.bool v.f3 :: Value.int .u64 v.f4 :: Value.int .u64 v.f5 :: Value.int .u64 v.f6 :: [Value.int .u64 v.f7]))).set 84 _=(List.range 48).map (Seg.get (.by 48 v.f0))++((List.range 32).map (Seg.get (.by 32 v.f1))++(Value.int .u64 v.f2 :: Value.bool v.f3 :: Value.int .u64 v.f4 :: Value.int .u64 v.f5 :: Value.int .u64 x :: [Value.int .u64 v.f7]))
 rw [List.set_append_right _ _ (by simp),List.set_append_right _ _ (by simp)]
 simp
theorem aEm (v:aA5) (x:Int):(aAW (aA3 v)).set 85 (.int .u64 x)=aAW (aA3 { v with f7:=x }):=by
 show ((List.range 48).map (Seg.get (.by 48 v.f0))++((List.range 32).map (Seg.get (.by 32 v.f1))++(Value.int .u64 v.f2 :: Value.bool v.f3 :: Value.int .u64 v.f4 :: Value.int .u64 v.f5 :: Value.int .u64 v.f6 :: [Value.int .u64 v.f7]))).set 85 _=(List.range 48).map (Seg.get (.by 48 v.f0))++((List.range 32).map (Seg.get (.by 32 v.f1))++(Value.int .u64 v.f2 :: Value.bool v.f3 :: Value.int .u64 v.f4 :: Value.int .u64 v.f5 :: Value.int .u64 v.f6 :: [Value.int .u64 x]))
 rw [List.set_append_right _ _ (by simp),List.set_append_right _ _ (by simp)]
 simp
end
section
open Go.RowKit
set_option linter.unusedVariables false
set_option linter.unusedSimpArgs false
set_option maxRecDepth 20000
def cor (x:aA1):aA1:={ x with f7:=⟨none,x.f7.n,0,x.f7.z⟩,f9:=⟨none,x.f9.n,0,x.f9.z⟩,f11:=⟨none,x.f11.n,0,x.f11.z⟩,f12:=⟨none,x.f12.n,0,x.f12.z⟩,f15:=⟨none,x.f15.n,0,x.f15.z⟩,f16:=⟨none,x.f16.n,0,x.f16.z⟩,f21:=⟨none,x.f21.n,0,x.f21.z⟩ }
theorem aBQ.cor {x X:aA1} (h:aBQ x X):cor X=cor x:=by
 unfold Go.Proofs.YtdjplhibmomajaaGreatDoor.cor
 rw [h.e0,h.e1,h.e2,h.e3,h.e4,h.e5,h.e6,h.l7,h.z7,h.e8,h.l9,h.z9,h.e10,h.l11,h.z11,h.l12,h.z12,h.e13,h.e14,h.l15,h.z15,h.l16,h.z16,h.e17,h.e18,h.e19,h.e20,h.l21,h.z21,h.e22,h.e23]
theorem aP8 {x X:aA1} (h:cor X=cor x):aBQ x X:=⟨(congrArg aA1.f0 h :),(congrArg aA1.f1 h :),(congrArg aA1.f2 h :),(congrArg aA1.f3 h :),(congrArg aA1.f4 h :),(congrArg aA1.f5 h :),(congrArg aA1.f6 h :),(congrArg (fun s:aA1=>s.f7.n) h :),(congrArg (fun s:aA1=>s.f7.z) h :),(congrArg aA1.f8 h :),(congrArg (fun s:aA1=>s.f9.n) h :),(congrArg (fun s:aA1=>s.f9.z) h :),(congrArg aA1.f10 h :),(congrArg (fun s:aA1=>s.f11.n) h :),(congrArg (fun s:aA1=>s.f11.z) h :),(congrArg (fun s:aA1=>s.f12.n) h :),(congrArg (fun s:aA1=>s.f12.z) h :),(congrArg aA1.f13 h :),(congrArg aA1.f14 h :),(congrArg (fun s:aA1=>s.f15.n) h :),(congrArg (fun s:aA1=>s.f15.z) h :),(congrArg (fun s:aA1=>s.f16.n) h :),(congrArg (fun s:aA1=>s.f16.z) h :),(congrArg aA1.f17 h :),(congrArg aA1.f18 h :),(congrArg aA1.f19 h :),(congrArg aA1.f20 h :),(congrArg (fun s:aA1=>s.f21.n) h :),(congrArg (fun s:aA1=>s.f21.z) h :),(congrArg aA1.f22 h :),(congrArg aA1.f23 h :)⟩
theorem aLy {F:aA1→aA1} (hF:∀ x,cor (F x)=cor (F (cor x))) {x X:aA1} (h:aBQ x X):aBQ (F x) (F X):=aP8 (by rw [hF X,hF x,h.cor])
theorem aRt {F:aA1→Int} (hF:∀ x,F x=F (cor x)) {x X:aA1} (h:aBQ x X):F X=F x:=by rw [hF X,hF x,h.cor]
def far:Int:=18446744073709551615
def w64 (n:Int):Int:=IntKind.u64.wrap n
theorem aHk (n:Int):0≤w64 n∧w64 n < 18446744073709551616:=by unfold w64;rw [IntKind.wrap_u64];omega
theorem aT0 {n:Int} (h0:0≤n) (h1:n < 18446744073709551616):w64 n=n:=by unfold w64;rw [IntKind.wrap_u64];omega
def lvQ (z:Nat→aA5) (e:Int):Nat→Int
 | 0 => e + 3
 | k + 1 => if ¬ (z k).f6 = far ∧ lvQ z e k < (z k).f6 then (z k).f6 else lvQ z e k
def lvN (z:Nat→aA5) (q:Int):Nat→Nat
 | 0 => 0
 | k + 1 => lvN z q k + (if (z k).f6 = q then 1 else 0)
theorem aKG (z:Nat→aA5) (q:Int):∀ k,lvN z q k≤k
 | 0 => Nat.le_refl _
 | k + 1 => by
  show lvN z q k+(if (z k).f6=q then 1 else 0)≤k+1
  have:=aKG z q k
  split<;>omega
theorem aIx (z:Nat→aA5) (e:Int) (h0:0≤e) (h1:e+3 < 18446744073709551616):∀ k,(∀ j,j < k→0≤(z j).f6∧(z j).f6 < 18446744073709551616)→e+3≤lvQ z e k∧lvQ z e k < 18446744073709551616
 | 0, _ => ⟨Int.le_refl _, h1⟩
 | k + 1, h => by
  have:=aIx z e h0 h1 k fun j hj=>h j (by omega)
  have hk:=h k (by omega)
  show e+3≤(if ¬ (z k).f6=far∧lvQ z e k < (z k).f6 then (z k).f6 else lvQ z e k)∧(if ¬ (z k).f6=far∧lvQ z e k < (z k).f6 then (z k).f6 else lvQ z e k) < _
  split<;>omega
def lvX (x:aA1):Int:=if aJL x≤(lvN x.f11.z (lvQ x.f11.z (x.f2 / 4) x.f11.n) x.f11.n:Int) then w64 (lvQ x.f11.z (x.f2 / 4) x.f11.n+1) else lvQ x.f11.z (x.f2 / 4) x.f11.n
def lvV (q:Int) (v:aA5):aA5:={ v with f6:=q,f7:=w64 (q+2) }
def lvS (x:aA1) (i:Nat):aA1:=if (x.f11.z i).f6=far then aDF x i (lvV (lvX x)) else x
def slV (e:Int) (v:aA5):aA5:={ v with f3:=true,f7:=if v.f7 < e+8 then e+8 else v.f7 }
def aJ9 (x:aA1) (i:Nat):Int:=(x.f11.z i).f2
def s14 (x:aA1) (p:Nat) (v:Int):aA1:={ x with f14:=fun j=>if j=p then v else x.f14 j }
def slA (x:aA1) (i:Nat):aA1:=aDF (lvS x i) i (slV (x.f2 / 4))
def slB (x:aA1) (i:Nat):aA1:=s14 (slA x i) (x.f2 / 4 % 8).toNat (w64 ((slA x i).f14 (x.f2 / 4 % 8).toNat+aJ9 x i))
def slC (x:aA1) (i:Nat):aA1:=aHl (slB x i) i (aHm ((slB x i).f12.z i) (aJ9 x i / 64))
def slE (x:aA1) (i:Nat):Int:=prE (slC x i)
def slP (x:aA1) (i:Nat):Nat:=(prV (slC x i)).toNat
def slS (x:aA1) (i:Nat):aA1:=if slE x i=0 then aHl (slC x i) (slP x i) (w64 ((slC x i).f12.z (slP x i)+aJ9 x i / 512)) else slC x i
theorem aKH (i:Nat) (x:aA1):cor (lvS x i)=cor (lvS (cor x) i):=by
 unfold lvS
 by_cases h:(x.f11.z i).f6=far
 ·rw [if_pos h,if_pos (show ((cor x).f11.z i).f6=far from h)];rfl
 ·rw [if_neg h,if_neg (show ¬ ((cor x).f11.z i).f6=far from h)];rfl
theorem aIX (x:aA1) (i:Nat) (f:aA5→aA5):cor (aDF x i f)=cor (aDF (cor x) i f):=rfl
theorem aQ0 (i:Nat) (x:aA1):cor (slA x i)=cor (slA (cor x) i):=by
 unfold slA
 rw [aIX,aKH,←aIX]
 rfl
theorem aLq (x:aA1) (p:Nat) (v:Int):cor (s14 x p v)=cor (s14 (cor x) p v):=rfl
theorem aDG (x:aA1) (p:Nat) (v:Int):cor (aHl x p v)=cor (aHl (cor x) p v):=rfl
theorem aPf {x y:aA1} (h:cor x=cor y) (p:Nat):x.f14 p=y.f14 p:=(congrArg (fun s:aA1=>s.f14 p) h :)
theorem aHz {x y:aA1} (h:cor x=cor y) (p:Nat):x.f12.z p=y.f12.z p:=(congrArg (fun s:aA1=>s.f12.z p) h :)
theorem aQ1 (i:Nat) (x:aA1):cor (slB x i)=cor (slB (cor x) i):=by
 have h:=aQ0 i x
 unfold slB
 rw [aLq,h,←aLq,aPf h]
 rfl
theorem aGh (i:Nat) (x:aA1):cor (slC x i)=cor (slC (cor x) i):=by
 have h:=aQ1 i x
 unfold slC
 rw [aDG,h,←aDG,aHz h]
 rfl
theorem aGU (x:aA1):prE x=prE (cor x)∧prV x=prV (cor x):=⟨rfl,rfl⟩
theorem aQ2 (i:Nat) (x:aA1):slE x i=slE (cor x) i:=by
 unfold slE
 rw [(aGU (slC x i)).1,aGh,←(aGU (slC (cor x) i)).1]
theorem aQ3 (i:Nat) (x:aA1):slP x i=slP (cor x) i:=by
 unfold slP
 rw [(aGU (slC x i)).2,aGh,←(aGU (slC (cor x) i)).2]
theorem aQ4 (i:Nat) (x:aA1):cor (slS x i)=cor (slS (cor x) i):=by
 have h:=aGh i x
 have e:aJ9 (cor x) i=aJ9 x i:=rfl
 unfold slS
 rw [←aQ2,←aQ3,e]
 by_cases h0:slE x i=0
 ·rw [if_pos h0,if_pos h0,aDG,h,←aDG,aHz h]
 ·rw [if_neg h0,if_neg h0,h]
theorem aPA {x X:aA1} (i:Nat) (h:aBQ x X):aBQ (lvS x i) (lvS X i):=aLy (aKH i) h
theorem aGj {x X:aA1} (i:Nat) (h:aBQ x X):aBQ (slS x i) (slS X i):=aLy (aQ4 i) h
theorem aOw {x:aA1} (h:aAD x) (i:Nat) (f:aA5→aA5) (hf:i < x.f11.n→aBi (f (x.f11.z i))):aAD (aDF x i f) :=
 { h with
  o11:=fun j hj=>by
   show aBi (if j=i then f (x.f11.z i) else x.f11.z j)
   by_cases e:j=i
   ·rw [if_pos e];subst e;exact hf hj
   ·rw [if_neg e];exact h.o11 j hj }
theorem aS2 {x:aA1} (h:aAD x) (i:Nat) (v:Int) (hv:0≤v∧v < 18446744073709551616):aAD (aHl x i v) :=
 { h with
  o12:=fun j hj=>by
   show 0≤(if j=i then v else x.f12.z j)∧(if j=i then v else x.f12.z j) < _
   by_cases e:j=i
   ·rw [if_pos e];exact hv
   ·rw [if_neg e];exact h.o12 j hj }
theorem aTG {x:aA1} (h:aAD x) (p:Nat) (v:Int) (hv:0≤v∧v < 18446744073709551616):aAD (s14 x p v) :=
 { h with
  o14:=fun j hj=>by
   show 0≤(if j=p then v else x.f14 j)∧(if j=p then v else x.f14 j) < _
   by_cases e:j=p
   ·rw [if_pos e];exact hv
   ·rw [if_neg e];exact h.o14 j hj }
theorem aRO {x:aA1} (h:aAD x) (h2:x.f2 < 1099511627776):0≤lvX x∧lvX x < 18446744073709551616:=by
 have h0:=h.o2.1
 have:=aIx x.f11.z (x.f2 / 4) (by omega) (by omega) x.f11.n fun j hj=>(h.o11 j hj).2.2.2.2.2.2.1
 unfold lvX
 split
 ·exact aHk _
 ·omega
theorem aPE {x:aA1} (h:aAD x) (h2:x.f2 < 1099511627776) (i:Nat):aAD (lvS x i):=by
 unfold lvS
 split
 ·exact aOw h i _ fun hi=>by
   obtain ⟨a,b,c,d,e,f,g,k⟩:=h.o11 i hi
   exact ⟨a,b,c,d,e,f,aRO h h2,aHk _⟩
 ·exact h
theorem aS3 {x:aA1} (h:aAD x) (h2:x.f2 < 1099511627776) (i:Nat):aAD (slA x i):=by
 unfold slA
 refine aOw (aPE h h2 i) i _ fun hi=>?_
 obtain ⟨a,b,c,d,e,f,g,k⟩:=(aPE h h2 i).o11 i hi
 have h0:=h.o2.1
 refine ⟨a,b,c,trivial,e,f,g,?_⟩
 show 0≤(if ((lvS x i).f11.z i).f7 < x.f2 / 4+8 then x.f2 / 4+8 else ((lvS x i).f11.z i).f7)∧(if ((lvS x i).f11.z i).f7 < x.f2 / 4+8 then x.f2 / 4+8 else ((lvS x i).f11.z i).f7) < _
 split<;>omega
theorem aRG {a b:Int} (h0:0≤a) (h1:a < 18446744073709551616) (hb:0≤b):0≤aHm a b∧aHm a b < 18446744073709551616:=by
 unfold aHm
 split<;>omega
end
end Go.Proofs.YtdjplhibmomajaaGreatDoor
