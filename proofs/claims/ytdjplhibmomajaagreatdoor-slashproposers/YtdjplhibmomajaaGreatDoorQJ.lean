/- A part. -/
import Derived.Test.YtdjplhibmomajaaGreatDoorQF
import Derived.Test.YtdjplhibmomajaaGreatDoorQD
import Derived.Test.YtdjplhibmomajaaGreatDoorQS
import Derived.Test.YtdjplhibmomajaaGreatDoorStQ
import Derived.Test.YtdjplhibmomajaaGreatDoorQI
import Derived.Test.YtdjplhibmomajaaGreatDoorQC
import Derived.Test.YtdjplhibmomajaaGreatDoorPkD
import Derived.Test.YtdjplhibmomajaaGreatDoorPkB
import Derived.BigRegion
import Derived.Laws.BitsAllLaws
import Derived.ArgAppend
import Derived.DeepKeys
namespace Go.Proofs.YtdjplhibmomajaaGreatDoor
open Go.RowKit
set_option linter.unusedVariables false
set_option linter.unusedSimpArgs false
section
open Go.RowKit
set_option linter.unusedVariables false
set_option linter.unusedSimpArgs false
set_option maxRecDepth 20000
def V3:aA1:={ aAn with f2:=3 }
theorem aRo (x:aA1):Z.Fits zS (pL x) 24:=by
 intro r hr h0
 have c:∀ r,r < 24→zS r=0∨(∃ k:Nat,zS r=(k:Int)∧∀ y:aA1,pL y r=k):=by
  intro r hr
  rcases r with _ | _ | _ | _ | _ | _ | _ | _ | _ | _ | _ | _ | _ | _ | _ | _ | _ | _ | _ | _ | _ | _ | _ | _ | r
  all_goals first | exact .inl rfl | exact .inr ⟨_,rfl,fun _=>rfl⟩ | omega
 rcases c r hr with h | ⟨k,h1,h2⟩
 ·exact absurd h h0
 ·rw [h2 x,h1]
theorem aVK {w:World} {sa:Nat} (hs:w.heap[sa]?=some (.cells (vs .i64 24 zS) 3)):Z.Nms .i64 w (some ⟨sa,0,none⟩) 24 zS:=.inr ⟨sa,0,rfl,aB0 hs,fun j hj=>by rw [Nat.zero_add];exact aA8 hs j hj⟩
attribute [local go_sem ↓] aAq aAr aAz
end
section
open Go.RowKit
set_option linter.unusedVariables false
set_option linter.unusedSimpArgs false
set_option maxRecDepth 20000
theorem aA9 {w w':World} {B k b:Nat} {t:TypeId} {v:Value} {n:Nat} {xs:List Value} (h:w.ownsRow B t k v n xs) (hk:Kept b w w') (hne:v.ownBlock≠some b):w'.ownsRow B t k v n xs:=by
 refine ⟨h.1,?_⟩
 rcases h.2 with h1 | ⟨g,cap,cur,rfl,h2,h3,h4⟩
 ·exact .inl h1
 ·exact .inr ⟨g,cap,cur,rfl,h2,(hk.block g (aB0 h3) (fun e=>hne (by rw [e];rfl))).trans h3,h4⟩
theorem aAx {w:World} {B k b:Nat} {t t':TypeId} {v:Value} {n:Nat} {xs:List Value} {C:Array Value} (h:w.ownsRow B t k v n xs) (hb:w.heap[b]?=some (.cells C t')) (ht:t≠t'):v.ownBlock≠some b:=by
 rcases h.2 with ⟨rfl,_⟩ | ⟨g,cap,cur,rfl,h2,h3,h4⟩
 ·intro e
  cases e
 ·intro e
  cases e
  rw [hb] at h3
  cases h3
  exact ht rfl
theorem place (i:Int) (n:Nat) (hn:0 < n):∃ K:Nat,K < n∧(i.tmod n+n).tmod n=(K:Int)∧-(n:Int) < i.tmod n∧i.tmod n < n:=by
 have h1:-(n:Int) < i.tmod n:=by
  have:=Int.lt_tmod_of_pos i (show (0:Int) < n by omega)
  omega
 have h2:i.tmod n < n:=Int.tmod_lt_of_pos i (by omega)
 have h3:0≤(i.tmod n+n).tmod n:=Int.tmod_nonneg _ (by omega)
 have h4:(i.tmod n+n).tmod n < n:=Int.tmod_lt_of_pos _ (by omega)
 exact ⟨((i.tmod n+n).tmod n).toNat,by omega,by omega,h1,h2⟩
end
section
open Go.RowKit
set_option linter.unusedVariables false
set_option linter.unusedSimpArgs false
set_option maxRecDepth 20000
def mS (x:aA1) (j:Nat):Int:=(Z.aMk zS (pF x) (pL x) 24).getD j 0
theorem aRQ (x:aA1):(Z.aMk zS (pF x) (pL x) 24).length=tL x:=Z.aMS zS (pF x) (pL x) 24 (aRo x)
theorem aTC (x:aA1):Z.iv (Z.aMk zS (pF x) (pL x) 24)=bl (mS x) (tL x):=by
 rw [Z.aPm,aRQ]
 rfl
end
section
open Go.RowKit
set_option linter.unusedVariables false
set_option linter.unusedSimpArgs false
set_option maxRecDepth 20000
structure BF (w:World) (y:Nat) (V:World) (Y:aA1):Prop where
 bel:Below w.heap.size w V
 row:V.heap[y]?=some (.cells (cel (aA0 Y)) 49)
 cpd:aEJ w.heap.size V Y
theorem aCO {w:World} {B:Nat} {a:Option Addr} {n c:Nat} {z:Nat→Int} (h:w.ownsRow B 5 1 (.slice a n c) n (bl z n)):Bys w a n c z:=by
 obtain ⟨a',c',e,hb⟩:=aAR h
 cases e
 exact hb
theorem aCD {w:World} {B:Nat} {a:Option Addr} {n c:Nat} {z:Nat→Int} (h:w.ownsRow B 24 32 (.slice a n c) n (bl z (32*n))):Rts w a n c z:=by
 rcases h.2 with ⟨hv,h0⟩ | ⟨g,cap,cur,hv,hB,hg,h1,h2,hs,ht⟩
 ·cases hv
  exact .inl ⟨rfl,rfl,rfl⟩
 ·cases hv
  refine .inr (.inr ⟨g,0,rfl,h1,aB0 hg,fun j hj=>?_⟩)
  have:=aE5 z (32*n) j hj
  rw [←ht,List.getElem?_take_of_lt (by omega),Array.getElem?_toList] at this
  rw [Nat.zero_add,aAs hg,this]
theorem BF.inW {w:World} {y:Nat} {V:World} {Y:aA1} (h:BF w y V Y):InW V Y :=
 ⟨aCD h.cpd.o7,aCY h.cpd.o9 (fun i=>by rw [aAC];rfl),aCY h.cpd.o11 (fun i=>by rw [aAC];rfl),aCZ h.cpd.o12,aCO h.cpd.o15,aCO h.cpd.o16,aCZ h.cpd.o21⟩
theorem aEJ.below {B:Nat} {V V':World} {Y:aA1} (h:aEJ B V Y) (hb:Below V.heap.size V V'):aEJ B V' Y :=
 ⟨ownsRow_below h.o7 hb,ownsRow_below h.o9 hb,ownsRow_below h.o11 hb,ownsRow_below h.o12 hb,ownsRow_below h.o15 hb,ownsRow_below h.o16 hb,ownsRow_below h.o21 hb,h.d15,h.d12⟩
theorem BF.below {w V V':World} {y:Nat} {Y:aA1} (h:BF w y V Y) (hb:Below V.heap.size V V'):BF w y V' Y :=
 ⟨h.bel.trans (hb.mono h.bel.size),(hb.block y (aB0 h.row)).trans h.row,h.cpd.below hb⟩
theorem BF.drew {w V:World} {y:Nat} {Y:aA1} (h:BF w y V Y):BF w y V.drew Y:=h.below ((Below.refl _ _).drew)
theorem BF.setY {w V:World} {y:Nat} {Y Y':aA1} (h:BF w y V Y) (hy:w.heap.size≤y) (i:Nat) (v:Value) (he:(cel (aA0 Y)).setIfInBounds i v=cel (aA0 Y')) (e7:Y'.f7=Y.f7) (e9:Y'.f9=Y.f9) (e11:Y'.f11=Y.f11) (e12:Y'.f12=Y.f12) (e15:Y'.f15=Y.f15) (e16:Y'.f16=Y.f16) (e21:Y'.f21=Y.f21):BF w y (V.setCell ⟨y,i,none⟩ v) Y':=by
 have hk:Kept y V (V.setCell ⟨y,i,none⟩ v):=(Kept.refl y V).setCell _ _
 refine ⟨h.bel.trans (hk.below hy h.bel.size),(aAI h.row i v).trans (congrArg (fun c=>some (Obj.cells c 49)) he),⟨?_,?_,?_,?_,?_,?_,?_,?_,?_⟩⟩
 ·rw [e7]
  exact aA9 h.cpd.o7 hk (aAx h.cpd.o7 h.row (by decide))
 ·rw [e9]
  exact aA9 h.cpd.o9 hk (aAx h.cpd.o9 h.row (by decide))
 ·rw [e11]
  exact aA9 h.cpd.o11 hk (aAx h.cpd.o11 h.row (by decide))
 ·rw [e12]
  exact aA9 h.cpd.o12 hk (aAx h.cpd.o12 h.row (by decide))
 ·rw [e15]
  exact aA9 h.cpd.o15 hk (aAx h.cpd.o15 h.row (by decide))
 ·rw [e16]
  exact aA9 h.cpd.o16 hk (aAx h.cpd.o16 h.row (by decide))
 ·rw [e21]
  exact aA9 h.cpd.o21 hk (aAx h.cpd.o21 h.row (by decide))
 ·rw [e15,e16]
  exact h.cpd.d15
 ·rw [e12,e21]
  exact h.cpd.d12
theorem aG5 {x X:aA1} (h:aBQ x X) (hx:aAD x):aAD X:=by
 refine ⟨by rw [h.e0];exact hx.o0,by rw [h.e1];exact hx.o1,by rw [h.e2];exact hx.o2,by rw [h.e3];exact hx.o3,by rw [h.e4];exact hx.o4,by rw [h.e5];exact hx.o5,by rw [h.e6];exact hx.o6,fun j hj=>by rw [h.z7];exact hx.o7 j (by rw [←h.l7];exact hj),by rw [h.e8];exact hx.o8,fun j hj=>by rw [h.z9];exact hx.o9 j (by rw [←h.l9];exact hj),by rw [h.e10];exact hx.o10,fun j hj=>by rw [h.z11];exact hx.o11 j (by rw [←h.l11];exact hj),fun j hj=>by rw [h.z12];exact hx.o12 j (by rw [←h.l12];exact hj),by rw [h.e13];exact hx.o13,by rw [h.e14];exact hx.o14,fun j hj=>by rw [h.z15];exact hx.o15 j (by rw [←h.l15];exact hj),fun j hj=>by rw [h.z16];exact hx.o16 j (by rw [←h.l16];exact hj),by rw [h.e18];exact hx.o18,by rw [h.e19];exact hx.o19,by rw [h.e20];exact hx.o20,fun j hj=>by rw [h.z21];exact hx.o21 j (by rw [←h.l21];exact hj),by rw [h.e22];exact hx.o22,by rw [h.e23];exact hx.o23⟩
theorem aOq {x X:aA1} (h:aBQ x X):qS X=qS x:=by
 unfold qS
 rw [h.e0,h.e1,h.e2,h.e3,h.e4,h.e5,h.e6,h.l7,h.z7,h.e8,h.l9,h.z9,h.e10,h.l11,h.z11,h.l12,h.z12,h.e13,h.e14,h.l15,h.z15,h.l16,h.z16,h.e17,h.e18,h.e19,h.e20,h.l21,h.z21,h.e22,h.e23]
theorem aKo {x X:aA1} (h:aBQ x X):aD9 X=aD9 x:=by
 unfold aD9
 rw [h.l7,h.l9,h.l11,h.l12,h.l15,h.l16,h.l21]
end
section
open Go.RowKit
set_option linter.unusedVariables false
set_option linter.unusedSimpArgs false
set_option maxRecDepth 20000
theorem aMI {x:aA1} (h:aD9 x=true):x.f7.n≤1024∧x.f9.n≤8∧x.f11.n≤65536∧x.f12.n≤65536∧x.f15.n≤65536∧x.f16.n≤65536∧x.f21.n≤65536:=by
 unfold aD9 at h
 simp only [Bool.and_eq_true,decide_eq_true_eq] at h
 omega
theorem aTV {x:aA1} (h:aD9 x=true):tL x < 4294967296:=by
 have:=aMI h
 rw [aTU]
 omega
attribute [local go_sem ↓] aAq aAr aAQ aAL
end
section
open Go.RowKit
set_option linter.unusedVariables false
set_option linter.unusedSimpArgs false
set_option maxRecDepth 20000
def Kys (w:World) (a:Option Addr) (len cap:Nat) (f:Nat→Int):Prop :=
 (a=none∧len=0∧cap=0)∨(∃ x,a=some x∧len=0)∨∃ b off,a=some ⟨b,off,none⟩∧len≤cap∧b < w.heap.size∧∀ j,j < 48*len→w.cell? ⟨b,off+j,none⟩=some (.int .u8 (f j))
theorem Kys.below {w w':World} {a:Option Addr} {len cap:Nat} {f:Nat→Int} (h:Kys w a len cap f) (hb:Below w.heap.size w w'):Kys w' a len cap f:=by
 rcases h with h | h | ⟨b,off,h1,h2,h3,h4⟩
 ·exact .inl h
 ·exact .inr (.inl h)
 ·exact .inr (.inr ⟨b,off,h1,h2,Nat.lt_of_lt_of_le h3 hb.size,fun j hj=>(aAk hb h3).trans (h4 j hj)⟩)
def aTu (x i:Value):Sem Value:=Instr.indexAt 80 x i
theorem aF0 (x i:Value):Instr.indexAt 80 x i=aTu x i:=rfl
theorem aSI (w:World):(sizeOf 44).run Tryz.prog w=.ok 48 w:=by
 have hi:(Tryz.prog.info? 44).map (·.size)=some 48:=by kernel_rfl
 cases hq:Tryz.prog.info? 44 with
 | none => simp [hq] at hi
 | some i => simp [hq] at hi; simp [sizeOf, typeInfo, hq, hi]
theorem aIp (w:World) (b off len cap i:Nat) (h:i < len):(aTu (.slice (some ⟨b,off,none⟩) len cap) (.int .i64 i)).run Tryz.prog w=.ok (.pointer (some ⟨b,off+48*i,none⟩)) w:=by
 unfold aTu Instr.indexAt
 have h1:(0:Int)≤(i:Int)∧(i:Int) < (len:Int):=by omega
 simp only [asIntOf,Sem.run_bind,Sem.run_pure,Result.andThen_ok,run_underlying Tryz.underlying80,if_pos h1,aSI,Addr.add_mid,Int.toNat_natCast]
 rw [Nat.mul_comm]
def aRM (a:Addr):Sem Value:=loadVar 44 a
theorem aDx (a:Addr):loadVar 44 a=aRM a:=rfl
attribute [local go_sem ↓] aF0 aDx aEx aAu aAt
end
section
open Go.RowKit
set_option linter.unusedVariables false
set_option linter.unusedSimpArgs false
set_option maxRecDepth 100000
def oV2:aA5:=⟨fun _=>0,fun _=>0,32000000000,false,0,0,18446744073709551615,18446744073709551615⟩
theorem aVL:aBi oV2:=⟨fun _ _=>(by decide:(0:Int)≤0∧(0:Int) < 256),fun _ _=>(by decide:(0:Int)≤0∧(0:Int) < 256),by decide,trivial,by decide,by decide,by decide,by decide⟩
theorem aTm (W:World):(bvV #[(2,.int .u64 32000000000),(6,.int .u64 18446744073709551615),(7,.int .u64 18446744073709551615)]).run Tryz.prog W=.ok (.agg (cel (aA3 oV2))) W:=by kernel_rfl
theorem aTk (W:World):(bsV 1 #[(0,.agg (cel (aA3 oV2)))]).run Tryz.prog W=.ok (.slice (some ⟨W.heap.size,0,none⟩) 1 1) (W.alloc (.cells (cel (aA3 oV2)) 65)):=by kernel_rfl
structure FS where
 a11:Option Addr
 n11:Nat
 c11:Nat
 a12:Option Addr
 n12:Nat
 c12:Nat
 a15:Option Addr
 n15:Nat
 c15:Nat
 a16:Option Addr
 n16:Nat
 c16:Nat
 a21:Option Addr
 n21:Nat
 c21:Nat
def fX (s:FS):aA1:={ aAn with f11:=⟨s.a11,s.n11,s.c11,fun _=>oV2⟩,f12:=⟨s.a12,s.n12,s.c12,fun _=>32000000000⟩,f15:=⟨s.a15,s.n15,s.c15,fun _=>0⟩,f16:=⟨s.a16,s.n16,s.c16,fun _=>0⟩,f21:=⟨s.a21,s.n21,s.c21,fun _=>0⟩ }
def fs0:FS:=⟨none,0,0,none,0,0,none,0,0,none,0,0,none,0,0⟩
theorem aVb:aAD (fX fs0):=by
 have z:(0:Int)≤0∧(0:Int) < 256:=by decide
 have zz:(0:Int)≤0∧(0:Int) < 18446744073709551616:=by decide
 exact ⟨zz,fun _ _=>z,zz,⟨fun _ _=>z,fun _ _=>z,zz⟩,⟨zz,zz,fun _ _=>z,fun _ _=>z,fun _ _=>z⟩,fun _ _=>z,fun _ _=>z,fun _ h=>absurd h (Nat.not_lt_zero _),⟨fun _ _=>z,zz,fun _ _=>z⟩,fun _ h=>absurd h (Nat.not_lt_zero _),zz,fun _ h=>absurd h (Nat.not_lt_zero _),fun _ h=>absurd h (Nat.not_lt_zero _),fun _ _=>z,fun _ _=>zz,fun _ h=>absurd h (Nat.not_lt_zero _),fun _ h=>absurd h (Nat.not_lt_zero _),⟨zz,fun _ _=>z⟩,⟨zz,fun _ _=>z⟩,⟨zz,fun _ _=>z⟩,fun _ h=>absurd h (Nat.not_lt_zero _),⟨fun _ _=>z,fun _ _=>z⟩,⟨fun _ _=>z,fun _ _=>z⟩⟩
attribute [local go_sem ↓] aAq aAr aAz aK2 aK1
end
section
open Go.RowKit
set_option linter.unusedVariables false
set_option linter.unusedSimpArgs false
set_option maxRecDepth 100000
theorem aMD {z:Nat→aA5} {L:List Int} {s:Nat→Int} (hL:L≠[]) (h:∀ v ∈ L,(z v.toNat).f2=32000000000):∀ i,drL z L s (i+1)=drL z L s i++[cdV L s i]:=fun i=>by
 have hb:=aG1 s i
 have hc:cdV L s i ∈ L:=aHJ L s (Nat.mod_lt _ (List.length_pos_iff.2 hL))
 have ht:tkB z L s i=true:=by
  unfold tkB
  rw [h _ hc,decide_eq_true_eq]
  omega
 show (if tkB z L s i=true then drL z L s i++[cdV L s i] else drL z L s i)=_
 rw [if_pos ht]
theorem aId {z:Nat→aA5} {L:List Int} {s:Nat→Int} (hL:L≠[]) (h:∀ v ∈ L,(z v.toNat).f2=32000000000):∀ i,(drL z L s i).length=i
 | 0 => rfl
 | i + 1 => by rw [aMD hL h i, List.length_append, aId hL h i]; rfl
theorem aPd {z:Nat→aA5} {L:List Int} {s:Nat→Int} {want:Nat} (hL:L≠[]) (h:∀ v ∈ L,(z v.toNat).f2=32000000000) (hw:want≤256):dwE z L s want=0∧dwL z L s want=drL z L s want :=
 have k:=aKh (z:=z) (s:=s) hL hw (aId hL h want)
 ⟨k.2,k.1⟩
def aTb:Prop:=∀ (x:aA1) (w:World),aAD x→Lk w x→Sh w→Calls Tryz.prog 46 #[.agg (cel (aA0 x))] w fun e' w'=>e'=.returned (.tuple #[.int .u64 (prV x),.int .i64 (prE x)])∧Below w.heap.size w w'
def X2 (g1 g2 g3 g4 g5:Nat):aA1:={ aAn with f11:=⟨some ⟨g1,0,none⟩,1,1,fun _=>oV2⟩,f12:=⟨some ⟨g2,0,none⟩,1,1,fun _=>0⟩,f15:=⟨some ⟨g3,0,none⟩,1,1,fun _=>0⟩,f16:=⟨some ⟨g4,0,none⟩,1,1,fun _=>0⟩,f21:=⟨some ⟨g5,0,none⟩,1,1,fun _=>0⟩ }
theorem aTg (W:World) (g1 g2 g3 g4 g5:Nat):(aES #[(11,.slice (some ⟨g1,0,none⟩) 1 1),(12,.slice (some ⟨g2,0,none⟩) 1 1),(15,.slice (some ⟨g3,0,none⟩) 1 1),(16,.slice (some ⟨g4,0,none⟩) 1 1),(21,.slice (some ⟨g5,0,none⟩) 1 1)]).run Tryz.prog W=.ok (.agg (cel (aA0 (X2 g1 g2 g3 g4 g5)))) W:=by kernel_rfl
theorem aNe {w:World} {g:Nat} {t:TypeId} (h:w.heap[g]?=some (.cells (cel (aA3 oV2)) t)):w.rangeAt g 0 (aAW (aA3 oV2)):=by
 intro j v hj
 rw [Nat.zero_add,aAs h,←hj]
 exact List.getElem?_toArray ..
theorem aTH (g1 g2 g3 g4 g5:Nat):aAD (X2 g1 g2 g3 g4 g5):=by
 have z:(0:Int)≤0∧(0:Int) < 256:=by decide
 have zz:(0:Int)≤0∧(0:Int) < 18446744073709551616:=by decide
 have h:=aVb
 exact ⟨h.o0,h.o1,h.o2,h.o3,h.o4,h.o5,h.o6,h.o7,h.o8,h.o9,h.o10,fun _ _=>aVL,fun _ _=>zz,h.o13,h.o14,fun _ _=>z,fun _ _=>z,h.o18,h.o19,h.o20,fun _ _=>zz,h.o22,h.o23⟩
theorem aOx:aAD aAn:=by
 have h:=aVb
 exact ⟨h.o0,h.o1,h.o2,h.o3,h.o4,h.o5,h.o6,h.o7,h.o8,h.o9,h.o10,fun _ hj=>absurd hj (Nat.not_lt_zero _),fun _ hj=>absurd hj (Nat.not_lt_zero _),h.o13,h.o14,fun _ hj=>absurd hj (Nat.not_lt_zero _),fun _ hj=>absurd hj (Nat.not_lt_zero _),h.o18,h.o19,h.o20,fun _ hj=>absurd hj (Nat.not_lt_zero _),h.o22,h.o23⟩
theorem setRow_other {w:World} {b k:Nat} {C:Array Value} (h:k≠b):(w.setRow b C).heap[k]?=w.heap[k]?:=by
 simp only [World.setRow,Array.getElem?_modify]
 rw [if_neg (fun e=>h e.symm)]
attribute [local go_sem ↓] aAq aAr aAz aAi aAl aAw aK2 aK1
end
section
open Go.RowKit
set_option linter.unusedVariables false
set_option linter.unusedSimpArgs false
set_option maxRecDepth 20000
theorem aG3 {w:World} {b o:Nat} {c:Nat→Int} (h:∀ j,j < 48→w.cell? ⟨b,o+j,none⟩=some (.int .u8 (c j))):(aRM ⟨b,o,none⟩).run Tryz.prog w=.ok (.agg (vs .u8 48 c)) w:=by
 have hr:w.rangeAt b o ((List.range 48).map fun i=>Value.int .u8 (c i)):=by
  intro j v hj
  have hlt:j < 48:=by
   have:=(List.getElem?_eq_some_iff.1 hj).1
   simpa using this
  rw [h j hlt]
  simp [hlt] at hj
  rw [hj]
 exact aAP (run_loadAt_mid w b o 44 _ _ hr Tryz.underlying44 rfl (by rw [List.length_map,List.length_range];kernel_rfl))
def aTe (ps:Array (Nat × Value)):Sem Value:=Instr.build 47 ps
theorem aMs (ps:Array (Nat × Value)):Instr.build 47 ps=aTe ps:=rfl
def aVx (x i:Value):Sem Value:=Instr.indexAt 45 x i
theorem aPn (x i:Value):Instr.indexAt 45 x i=aVx x i:=rfl
attribute [local go_sem ↓] aAq aAr aAz aAi aAl aAw aCW aDU aMs aF0 aDx aEx aPn
end
section
open Go.RowKit
set_option linter.unusedVariables false
set_option linter.unusedSimpArgs false
set_option maxRecDepth 20000
theorem aPu (d:Nat) (c:Int) (h:0≤c∧c < 256):Tryz.prog.keyLits (d+1) 5 [.int .u8 c]=some [.int .u8 c]:=by
 have hw:(Lit.int .u8 c).wf=true:=by
  have:IntKind.u8.min=0∧IntKind.u8.max=255:=by decide
  simp [Lit.wf,this]
  omega
 simp [Program.keyLits,Tryz.underlying5,hw]
theorem aOZ (f:Nat→Int) (n o k:Nat) (h:o+k≤n):((bl f n).drop o).take k=bl (fun j=>f (o+j)) k:=by
 apply List.ext_getElem?
 intro j
 rw [List.getElem?_take]
 by_cases hj:j < k
 ·rw [if_pos hj,List.getElem?_drop]
  unfold bl
  rw [List.getElem?_map,List.getElem?_range (by omega),List.getElem?_map,List.getElem?_range hj]
  rfl
 ·rw [if_neg hj]
  unfold bl
  rw [List.getElem?_eq_none (by simp;omega)]
end
section
open Go.RowKit
set_option linter.unusedVariables false
set_option linter.unusedSimpArgs false
set_option maxRecDepth 20000
theorem aHO {w:World} {B k g n cap:Nat} {t:TypeId} {xs:List Value} (h:w.ownsRow B t k (.slice (some ⟨g,0,none⟩) n cap) n xs) (i:Nat) (hi:i < n*k) (v:Value):(w.setCell ⟨g,i,none⟩ v).ownsRow B t k (.slice (some ⟨g,0,none⟩) n cap) n (xs.set i v):=by
 refine ⟨by rw [List.length_set];exact h.1,?_⟩
 rcases h.2 with ⟨e,_⟩ | ⟨g',cap',cur,e,h1,h2,h3,h4,h5,h6⟩
 ·cases e
 ·cases e
  refine .inr ⟨g,cap,cur.setIfInBounds i v,rfl,h1,aAI h2 i v,h3,h4,by rw [Array.size_setIfInBounds];exact h5,?_⟩
  rw [←h6]
  apply List.ext_getElem?
  intro j
  rw [List.getElem?_take,Array.getElem?_toList,Array.getElem?_setIfInBounds]
  have hs:i < cur.size:=by
   rw [h5]
   exact Nat.lt_of_lt_of_le hi (Nat.mul_le_mul_right _ h3)
  by_cases hj:j < n*k
  ·rw [if_pos hj,List.getElem?_set]
   by_cases hji:i=j
   ·subst hji
    rw [if_pos rfl,if_pos rfl,if_pos hs,if_pos (by rw [List.length_take,Array.length_toList];omega)]
   ·rw [if_neg hji,if_neg hji,List.getElem?_take,if_pos hj,Array.getElem?_toList]
  ·rw [if_neg hj,List.getElem?_eq_none (by rw [List.length_set,List.length_take];omega)]
theorem aIj {e:Nat→List Value} {k:Nat} (h:∀ i,(e i).length=k) (n i p:Nat) (hi:i < n) (hp:p < k) (v:Value):(flat e n).set (i*k+p) v=flat (fun j=>if j=i then (e i).set p v else e j) n:=by
 have h':∀ j,((fun j=>if j=i then (e i).set p v else e j) j).length=k:=fun j=>by
  show (if j=i then (e i).set p v else e j).length=k
  by_cases hj:j=i
  ·rw [if_pos hj,List.length_set];exact h i
  ·rw [if_neg hj];exact h j
 apply List.ext_getElem?
 intro q
 rw [List.getElem?_set]
 by_cases hq:q < n*k
 ·have hk:0 < k:=by omega
  have hd:q / k < n:=Nat.div_lt_of_lt_mul (by rw [Nat.mul_comm];exact hq)
  have hm:q % k < k:=Nat.mod_lt _ hk
  have e1:q / k*k+q % k=q:=by rw [Nat.mul_comm];exact Nat.div_add_mod q k
  have f1:=aEX h (q / k) (q % k) hm n hd
  have f2:=aEX h' (q / k) (q % k) hm n hd
  rw [e1] at f1 f2
  rw [f2]
  by_cases hqi:i*k+p=q
  ·have hq1:q / k=i:=by
    rw [←hqi,Nat.mul_comm i k,Nat.mul_add_div hk,Nat.div_eq_of_lt hp,Nat.add_zero]
   have hq2:q % k=p:=by
    rw [←hqi,Nat.mul_comm i k,Nat.mul_add_mod,Nat.mod_eq_of_lt hp]
   rw [if_pos hqi,hq1,hq2]
   show _=(if i=i then (e i).set p v else e i)[p]?
   rw [if_pos rfl,List.getElem?_set_self (by rw [h i];exact hp),if_pos (by rw [aCG h n,hqi];exact hq)]
  ·rw [if_neg hqi,f1]
   show _=(if q / k=i then (e i).set p v else e (q / k))[q % k]?
   by_cases hq1:q / k=i
   ·rw [if_pos hq1,hq1,List.getElem?_set_ne (fun hh=>hqi (by rw [hh,←hq1];exact e1))]
   ·rw [if_neg hq1]
 ·have l2:(flat (fun j=>if j=i then (e i).set p v else e j) n)[q]?=none:=List.getElem?_eq_none (by rw [aCG h' n];omega)
  have l1:(flat e n)[q]?=none:=List.getElem?_eq_none (by rw [aCG h n];omega)
  rw [l2,l1]
  by_cases hqi:i*k+p=q
  ·exfalso
   have:i*k+k≤n*k:=by
    rw [←Nat.succ_mul]
    exact Nat.mul_le_mul_right _ hi
   omega
  ·rw [if_neg hqi]
theorem aS0 (z:Nat→Int) (n i:Nat) (v:Int):(nl z n).set i (.int .u64 v)=nl (fun j=>if j=i then v else z j) n:=by
 apply List.ext_getElem?
 intro j
 unfold nl
 rw [List.getElem?_set,List.getElem?_map,List.getElem?_map,List.length_map,List.length_range]
 by_cases hj:j < n
 ·rw [List.getElem?_range hj]
  by_cases hi:i=j
  ·subst hi
   rw [if_pos rfl,if_pos hj,Option.map_some]
   exact congrArg (fun x=>some (Value.int .u64 x)) (if_pos rfl).symm
  ·rw [if_neg hi,Option.map_some,Option.map_some]
   exact congrArg (fun x=>some (Value.int .u64 x)) (if_neg (show ¬ j=i from fun e=>hi e.symm)).symm
 ·rw [List.getElem?_eq_none (by rw [List.length_range];omega)]
  by_cases hi:i=j
  ·subst hi
   rw [if_pos rfl,if_neg hj]
   rfl
  ·rw [if_neg hi]
   rfl
end
section
open Go.RowKit
set_option linter.unusedVariables false
set_option linter.unusedSimpArgs false
set_option maxRecDepth 20000
theorem aP3 (N:Nat) (u:Nat→Int):aAW [.by N u]=bl u N:=by
 show (List.range N).map _++[]=_
 rw [List.append_nil]
 rfl
theorem byte_at {w:World} {g:Nat} {t:TypeId} (l1 l2:List Seg) (N:Nat) (f:Nat→Int) (h:w.heap[g]?=some (.cells (cel (l1++[.by N f]++l2)) t)) (p:Nat) (hp:p < N):w.cell? ⟨g,aCa l1+p,none⟩=some (.int .u8 (f p)):=by
 rw [aAs h]
 show (aAW (l1++[.by N f]++l2)).toArray[aCa l1+p]?=_
 rw [List.getElem?_toArray,aBL,aBL,List.append_assoc,List.getElem?_append_right (by rw [aAC];omega),aAC,Nat.add_sub_cancel_left,aP3,List.getElem?_append_left (by rw [aAV];exact hp)]
 unfold bl
 rw [List.getElem?_map,List.getElem?_range hp]
 rfl
theorem aQd (x:aA1) (u:Nat→Int):aA0 { x with f1:=u }=(aA0 x).take 1++[.by 32 u]++(aA0 x).drop 2:=by kernel_rfl
theorem aVF (x:aA1):aCa ((aA0 x).take 1)=1:=by kernel_rfl
theorem at1 {w:World} {g:Nat} {x:aA1} {t:TypeId} (h:w.heap[g]?=some (.cells (cel (aA0 x)) t)) (p:Nat) (hp:p < 32):w.cell? ⟨g,1+p,none⟩=some (.int .u8 (x.f1 p)):=by
 have:=byte_at ((aA0 x).take 1) ((aA0 x).drop 2) 32 x.f1 (t:=t) (by rw [←aQd];exact h) p hp
 rw [aVF] at this
 exact this
theorem aGF {z z':Nat→aA5} (h:∀ j,(z j).f2=(z' j).f2) (L:List Int) (s:Nat→Int):∀ i,drL z L s i=drL z' L s i
 | 0 => rfl
 | i + 1 => by
  have e:tkB z L s i=tkB z' L s i:=by unfold tkB;rw [h]
  show (if tkB z L s i=true then drL z L s i++_ else drL z L s i)=(if tkB z' L s i=true then drL z' L s i++_ else drL z' L s i)
  rw [e,aGF h L s i]
theorem aMG {z z':Nat→aA5} (h:∀ j,(z j).f2=(z' j).f2) (L:List Int) (s:Nat→Int) (want:Nat):dwL z L s want=dwL z' L s want∧dwE z L s want=dwE z' L s want:=by
 unfold dwL dwE dwO
 rw [aGF h L s 256]
 exact ⟨rfl,rfl⟩
end
section
open Go.RowKit
set_option linter.unusedVariables false
set_option linter.unusedSimpArgs false
def kdB (k:Int) (j:Nat):Int:=nmB (k % 4294967296) j
def dmV (k:Int) (v r:Nat→Int) (j:Nat):Int:=if j < 4 then kdB k j else tw (pk v 4) r (j - 4)
def aEK (x:aA1) (k e:Int):Nat→Int:=dmV k (if e < x.f3.f2 then x.f3.f0 else x.f3.f1) x.f1
theorem aRx (k:Int) (j:Nat) (hj:j < 4):nmB (k % 18446744073709551616) j=kdB k j:=by
 unfold kdB nmB
 match j,hj with
 | 0, _ => simp only [Nat.mul_zero, Int.pow_zero]; omega
 | 1, _ => show k % 18446744073709551616 / 256 % 256 = k % 4294967296 / 256 % 256; omega
 | 2, _ => show k % 18446744073709551616 / 65536 % 256 = k % 4294967296 / 65536 % 256; omega
 | 3, _ => show k % 18446744073709551616 / 16777216 % 256 = k % 4294967296 / 16777216 % 256; omega
theorem aS8 {m:Nat→Int} {len:Nat} (h:∀ j,j < len→0≤m j∧m j < 256) (q:Nat):0≤pk m len q∧pk m len q < 256:=by
 unfold pk
 split
 ·exact h q ‹_›
 ·omega
theorem aJW {m m':Nat→Int} {n:Nat} (h:∀ j,j < n→m j=m' j):bl m n=bl m' n:=by
 unfold bl
 exact List.map_congr_left fun j hj=>by rw [h j (List.mem_range.1 hj)]
theorem aLl (f:Nat→Int):aCT f 0=f:=funext fun j=>by unfold aCT;rw [Nat.mul_zero,Nat.zero_add]
def qsF (f:Nat→Int) (n:Nat) (r s:Nat→Int) (j:Nat):Int:=if j < 48*n then f j else if j < 48*n+32 then r (j - 48*n) else s (j - (48*n+32))
def qsV (f:Nat→Int) (n:Nat) (r s:Nat→Int):Nat→Int:=aCH KW HW (qsF f n r s) (48*n+128)
theorem aOD {f r s:Nat→Int} {n:Nat} (hf:∀ j,j < 48*n→0≤f j∧f j < 256) (hr:∀ j,j < 32→0≤r j∧r j < 256) (hs:∀ j,j < 96→0≤s j∧s j < 256):∀ j,j < 48*n+128→0≤qsF f n r s j∧qsF f n r s j < 256:=fun j hj=>by
 unfold qsF
 split
 ·exact hf j ‹_›
 ·split
  ·exact hr _ (by omega)
  ·exact hs _ (by omega)
def gdB (q f:Nat→Int) (n:Nat):Bool:=!(List.range n).any fun i=>eqR (aCT f i) q
theorem aIm (q f:Nat→Int):gdB q f 0=true:=rfl
theorem aIk (q f:Nat→Int) (n:Nat):gdB q f (n+1)=(gdB q f n && !eqR (aCT f n) q):=by
 unfold gdB
 rw [List.range_succ,List.any_append,Bool.not_or]
 simp
theorem aIl {q f:Nat→Int} {n:Nat}:gdB q f n=true↔∀ i,i < n→eqR (aCT f i) q=false:=by
 unfold gdB
 simp
end
end Go.Proofs.YtdjplhibmomajaaGreatDoor
