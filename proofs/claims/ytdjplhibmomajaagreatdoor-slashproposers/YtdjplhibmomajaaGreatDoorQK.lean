/- A part. -/
import Derived.Test.YtdjplhibmomajaaGreatDoorSuB
import Derived.Test.YtdjplhibmomajaaGreatDoorStP
import Derived.Test.YtdjplhibmomajaaGreatDoorQJ
import Derived.Test.YtdjplhibmomajaaGreatDoorStY
import Derived.SizedLaws
namespace Go.Proofs.YtdjplhibmomajaaGreatDoor
open Go.RowKit
set_option linter.unusedVariables false
set_option linter.unusedSimpArgs false
section
open Go.RowKit
set_option linter.unusedVariables false
set_option linter.unusedSimpArgs false
set_option maxRecDepth 20000
def rE (x:aA1):Int:=if aD9 x=true then 0 else 6
def rS (x:aA1):ByteArray:=if aD9 x=true then Z.aNx (mS x) (tL x) else Z.aNx (mS x) 0
theorem aIK (x : aA1) (w : World) (hx : aAD x) (hw : InW w x) (E : Int) (hE : rE x = E) (s : ByteArray) (hs : rS x = s) :
    Calls Tryz.prog 31 #[.agg (cel (aA0 x))] w fun e w'=>∃ a n c,e=.returned (.tuple #[.slice a n c,.int .i64 E])∧(∀ X,Below w'.heap.size w' X→(convert 39 9 (.slice a n c)).run Tryz.prog X=.ok (.string s) X)∧Below w.heap.size w w':=by
 refine (aNf x w hx hw).mono ?_
 rintro e w' ⟨a,n,c,E',rfl,h | h,hb⟩
 ·obtain ⟨hf,rfl,rfl,hy⟩:=h
  unfold rE at hE
  unfold rS at hs
  rw [if_pos hf] at hE hs
  rw [←hE,←hs]
  exact ⟨a,_,c,rfl,fun X hX=>Z.aFP X a _ c _ (hy.below hX),hb⟩
 ·obtain ⟨hf,rfl,rfl,rfl,rfl⟩:=h
  unfold rE at hE
  unfold rS at hs
  rw [if_neg (by rw [hf];decide)] at hE hs
  rw [←hE,←hs]
  exact ⟨none,0,0,rfl,fun X hX=>Z.aFP X none 0 0 (mS x) (.inl ⟨rfl,rfl,rfl⟩),hb⟩
attribute [local go_sem ↓] aAq aAr
set_option maxHeartbeats 4000000 in
theorem aNl (a b : aA1) (w : World) (ha : aAD a) (hb : aAD b) (ia : InW w a) (ib : InW w b) (hE : rE b = rE a) (hS : rS b = rS a) :
    Calls Tryz.prog 9 #[.agg (cel (aA0 a)),.agg (cel (aA0 b))] w fun e w'=>e=.returned (.bool true)∧Below w.heap.size w w':=by
 obtain ⟨W1,hW1⟩:∃ W,w.alloc (.cells (cel (aA0 a)) 49)=W:=⟨_,rfl⟩
 obtain ⟨W2,hW2⟩:∃ W,W1.alloc (.cells (cel (aA0 b)) 49)=W:=⟨_,rfl⟩
 have z1:W1.heap.size=w.heap.size+1:=by rw [←hW1];simp
 obtain ⟨y1,ey1⟩:∃ y,w.heap.size=y:=⟨_,rfl⟩
 obtain ⟨y2,ey2⟩:∃ y,W1.heap.size=y:=⟨_,rfl⟩
 have r1:W2.heap[y1]?=some (.cells (cel (aA0 a)) 49):=by
  rw [←hW2,←ey1]
  refine (aAc (by omega)).trans ?_
  rw [←hW1]
  exact aA2 rfl
 have r2:W2.heap[y2]?=some (.cells (cel (aA0 b)) 49):=by
  rw [←hW2,←ey2]
  exact aA2 rfl
 have hB:Below w.heap.size w W2:=by
  rw [←hW2,←hW1]
  exact ((Below.refl _ _).alloc (Nat.le_refl _) _).alloc (by simp) _
 obtain ⟨E,eE⟩:∃ E,rE a=E:=⟨_,rfl⟩
 obtain ⟨S,eS⟩:∃ S,rS a=S:=⟨_,rfl⟩
 have lv1:=aAg r1
 have HA:=hid (aIK a W2 ha (ia.below hB) E eE S eS)
 have HBB:Hid (∀ X,Below W2.heap.size W2 X→Calls Tryz.prog 31 #[.agg (cel (aA0 b))] X fun e w'=>∃ a n c,e=.returned (.tuple #[.slice a n c,.int .i64 E])∧(∀ Y,Below w'.heap.size w' Y→(convert 39 9 (.slice a n c)).run Tryz.prog Y=.ok (.string S) Y)∧Below X.heap.size X w'):=fun X h=>aIK b X hb (ib.below (hB.trans (h.mono hB.size))) E (hE.trans eE) S (hS.trans eS)
 have HL2:Hid (∀ X,Below W2.heap.size W2 X→(aCc ⟨y2,0,none⟩).run Tryz.prog X=.ok (.agg (cel (aA0 b))) X):=fun X h=>aAg ((h.block y2 (aB0 r2)).trans r2)
 have HB:=hid hB
 clear r1 r2 hB eE eS ha hb ia ib hE hS z1
 go_enter Tryz.func9,Tryz.ntmps9
 go_upto_region 1 with fail
 clear hW1 hW2 ey1 ey2
 go_upto_region 2 with (go_at_call 31;refine HA.out.mono ?_;rintro e w3 ⟨a3,n3,c3,rfl,hcv,hb3⟩;have C3:=hid hcv;have lv2:=HL2.out w3 hb3;have HC:=hid (HBB.out w3 hb3);have HB3:=hid (HB.out.trans (hb3.mono HB.out.size));clear hcv hb3)
 go_upto_region 3 with (go_at_call 31;refine HC.out.mono ?_;rintro e w4 ⟨a4,n4,c4,rfl,hcv,hb4⟩;have cv4:=hcv w4 (Below.refl _ _);have cv3:=C3.out w4 hb4;have HB4:=hid (HB3.out.trans (hb4.mono HB3.out.size));clear hcv hb4)
 go_wp2
 go_ret
 exact ⟨rfl,HB4.out⟩
end
section
open Go.RowKit
set_option linter.unusedVariables false
set_option linter.unusedSimpArgs false
set_option maxRecDepth 20000
theorem aCF {H:Type} {P:Program} {f:Nat→Bool}:∀ {ts:List TypeId} {ds:List (DataW H)},(DataW.weightsEach P ts ds).all f=true→∀ {j:Nat} {t:TypeId} {d:DataW H},ts[j]?=some t→ds[j]?=some d→(d.weights P t).all f=true
 | [], _, _, _, _, _, ht, _ => by simp at ht
 | _ :: _, [], _, _, _, _, _, hd => by simp at hd
 | t0 :: ts, d0 :: ds, h, 0, t, d, ht, hd => by
  unfold DataW.weightsEach at h
  rw [List.all_append,Bool.and_eq_true] at h
  simp at ht hd
  subst ht hd
  exact h.1
 | t0 :: ts, d0 :: ds, h, j + 1, t, d, ht, hd => by
  unfold DataW.weightsEach at h
  rw [List.all_append,Bool.and_eq_true] at h
  exact aCF h.2 (by simpa using ht) (by simpa using hd)
theorem aDh {H : Type} {enc : TypeId × Value → H} {P : Program} {w : World} {b0 fuel : Nat} {sp : Nat → Bool} {held : Bool} {t e : TypeId} {a : Option Addr} {n c B : Nat} {y : DataW H × List MemPlace}
    (hu:P.underlying t=some (.slice e)) (hB:P.bytesOf e=B) (h:DataW.trod enc P w b0 sp held fuel t [.slice a n c]=some y) (hw:(y.1.weights P t).all (·≤reachBytes)=true):n*B≤140737488351232:=by
 rcases DataW.trod_slice hu h with ⟨hcs,hx⟩ | ⟨x,l,cp,el,rest,m,_,hcs,hx,_,_,_,hel,_⟩
 ·cases hcs
  simp
 ·cases hcs
  subst hx
  unfold DataW.weights at hw
  simp only [hu,List.all_cons,Bool.and_eq_true,decide_eq_true_eq,List.length_map,hB] at hw
  have h1:((el.length+rest.length)*B)≤140737488351232:=hw.1
  exact Nat.le_trans (Nat.mul_le_mul_right B (by omega)) h1
def Rch (x:aA1):Prop:=x.f7.n*32≤140737488351232∧x.f9.n*72≤140737488351232∧x.f11.n*128≤140737488351232∧x.f12.n*8≤140737488351232∧x.f15.n≤140737488351232∧x.f16.n≤140737488351232∧x.f21.n*8≤140737488351232
set_option maxRecDepth 100000 in
set_option maxHeartbeats 2000000 in
theorem aHY {H:Type} {enc:TypeId × Value→H} {w:World} {b0:Nat} {held:Bool} {x:aA1} {d:DataW H} {p:List MemPlace} (h:DataW.Trod enc Tryz.prog w b0 (fun _=>true) held 49 (.agg (cel (aA0 x))) d p) (hs:(d.weights Tryz.prog 49).all (·≤reachBytes)=true):Rch x:=by
 obtain ⟨fuel,hf⟩:=h
 obtain ⟨xs,n,_,hd,_,hxl,hat⟩:=DataW.trod_struct Tryz.underlying49 hf
 have hd1:d=.agg (xs.map (·.1)):=congrArg Prod.fst hd
 have hx:xs.length=24:=hxl
 rw [hd1] at hs
 unfold DataW.weights at hs
 rw [Tryz.underlying49] at hs
 have h7:=hat 7 _ rfl
 rw [List.getElem?_eq_getElem (by omega)] at h7
 replace h7:DataW.trod enc Tryz.prog w b0 (fun _=>true) held n 32 (((cel (aA0 x)).toList.drop 653).take (Tryz.prog.cellsOf 32))=some xs[7]:=h7
 rw [show Tryz.prog.cellsOf 32=1 by kernel_rfl,show ((cel (aA0 x)).toList.drop 653).take 1=[.slice x.f7.a x.f7.n x.f7.c] by kernel_rfl] at h7
 have q7:=aDh (B:=32) Tryz.underlying32 (by kernel_rfl) h7 (aCF hs (j:=7) (t:=32) (d:=xs[7].1) (by kernel_rfl) (by rw [List.getElem?_map,List.getElem?_eq_getElem (by omega)];rfl))
 have h9:=hat 9 _ rfl
 rw [List.getElem?_eq_getElem (by omega)] at h9
 replace h9:DataW.trod enc Tryz.prog w b0 (fun _=>true) held n 35 (((cel (aA0 x)).toList.drop 719).take (Tryz.prog.cellsOf 35))=some xs[9]:=h9
 rw [show Tryz.prog.cellsOf 35=1 by kernel_rfl,show ((cel (aA0 x)).toList.drop 719).take 1=[.slice x.f9.a x.f9.n x.f9.c] by kernel_rfl] at h9
 have q9:=aDh (B:=72) Tryz.underlying35 (by kernel_rfl) h9 (aCF hs (j:=9) (t:=35) (d:=xs[9].1) (by kernel_rfl) (by rw [List.getElem?_map,List.getElem?_eq_getElem (by omega)];rfl))
 have h11:=hat 11 _ rfl
 rw [List.getElem?_eq_getElem (by omega)] at h11
 replace h11:DataW.trod enc Tryz.prog w b0 (fun _=>true) held n 36 (((cel (aA0 x)).toList.drop 721).take (Tryz.prog.cellsOf 36))=some xs[11]:=h11
 rw [show Tryz.prog.cellsOf 36=1 by kernel_rfl,show ((cel (aA0 x)).toList.drop 721).take 1=[.slice x.f11.a x.f11.n x.f11.c] by kernel_rfl] at h11
 have q11:=aDh (B:=128) Tryz.underlying36 (by kernel_rfl) h11 (aCF hs (j:=11) (t:=36) (d:=xs[11].1) (by kernel_rfl) (by rw [List.getElem?_map,List.getElem?_eq_getElem (by omega)];rfl))
 have h12:=hat 12 _ rfl
 rw [List.getElem?_eq_getElem (by omega)] at h12
 replace h12:DataW.trod enc Tryz.prog w b0 (fun _=>true) held n 37 (((cel (aA0 x)).toList.drop 722).take (Tryz.prog.cellsOf 37))=some xs[12]:=h12
 rw [show Tryz.prog.cellsOf 37=1 by kernel_rfl,show ((cel (aA0 x)).toList.drop 722).take 1=[.slice x.f12.a x.f12.n x.f12.c] by kernel_rfl] at h12
 have q12:=aDh (B:=8) Tryz.underlying37 (by kernel_rfl) h12 (aCF hs (j:=12) (t:=37) (d:=xs[12].1) (by kernel_rfl) (by rw [List.getElem?_map,List.getElem?_eq_getElem (by omega)];rfl))
 have h15:=hat 15 _ rfl
 rw [List.getElem?_eq_getElem (by omega)] at h15
 replace h15:DataW.trod enc Tryz.prog w b0 (fun _=>true) held n 39 (((cel (aA0 x)).toList.drop 987).take (Tryz.prog.cellsOf 39))=some xs[15]:=h15
 rw [show Tryz.prog.cellsOf 39=1 by kernel_rfl,show ((cel (aA0 x)).toList.drop 987).take 1=[.slice x.f15.a x.f15.n x.f15.c] by kernel_rfl] at h15
 have q15:=aDh (B:=1) Tryz.underlying39 (by kernel_rfl) h15 (aCF hs (j:=15) (t:=39) (d:=xs[15].1) (by kernel_rfl) (by rw [List.getElem?_map,List.getElem?_eq_getElem (by omega)];rfl))
 have h16:=hat 16 _ rfl
 rw [List.getElem?_eq_getElem (by omega)] at h16
 replace h16:DataW.trod enc Tryz.prog w b0 (fun _=>true) held n 39 (((cel (aA0 x)).toList.drop 988).take (Tryz.prog.cellsOf 39))=some xs[16]:=h16
 rw [show Tryz.prog.cellsOf 39=1 by kernel_rfl,show ((cel (aA0 x)).toList.drop 988).take 1=[.slice x.f16.a x.f16.n x.f16.c] by kernel_rfl] at h16
 have q16:=aDh (B:=1) Tryz.underlying39 (by kernel_rfl) h16 (aCF hs (j:=16) (t:=39) (d:=xs[16].1) (by kernel_rfl) (by rw [List.getElem?_map,List.getElem?_eq_getElem (by omega)];rfl))
 have h21:=hat 21 _ rfl
 rw [List.getElem?_eq_getElem (by omega)] at h21
 replace h21:DataW.trod enc Tryz.prog w b0 (fun _=>true) held n 37 (((cel (aA0 x)).toList.drop 1092).take (Tryz.prog.cellsOf 37))=some xs[21]:=h21
 rw [show Tryz.prog.cellsOf 37=1 by kernel_rfl,show ((cel (aA0 x)).toList.drop 1092).take 1=[.slice x.f21.a x.f21.n x.f21.c] by kernel_rfl] at h21
 have q21:=aDh (B:=8) Tryz.underlying37 (by kernel_rfl) h21 (aCF hs (j:=21) (t:=37) (d:=xs[21].1) (by kernel_rfl) (by rw [List.getElem?_map,List.getElem?_eq_getElem (by omega)];rfl))
 exact ⟨q7,q9,q11,q12,by omega,by omega,q21⟩
end
section
open Go.RowKit
set_option linter.unusedVariables false
set_option linter.unusedSimpArgs false
set_option maxRecDepth 20000
theorem aBQ.refl (x:aA1):aBQ x x:=⟨rfl,rfl,rfl,rfl,rfl,rfl,rfl,rfl,rfl,rfl,rfl,rfl,rfl,rfl,rfl,rfl,rfl,rfl,rfl,rfl,rfl,rfl,rfl,rfl,rfl,rfl,rfl,rfl,rfl,rfl,rfl⟩
theorem aBQ.symm {x y:aA1} (h:aBQ x y):aBQ y x:=⟨h.e0.symm,h.e1.symm,h.e2.symm,h.e3.symm,h.e4.symm,h.e5.symm,h.e6.symm,h.l7.symm,h.z7.symm,h.e8.symm,h.l9.symm,h.z9.symm,h.e10.symm,h.l11.symm,h.z11.symm,h.l12.symm,h.z12.symm,h.e13.symm,h.e14.symm,h.l15.symm,h.z15.symm,h.l16.symm,h.z16.symm,h.e17.symm,h.e18.symm,h.e19.symm,h.e20.symm,h.l21.symm,h.z21.symm,h.e22.symm,h.e23.symm⟩
theorem aBQ.trans {x y z:aA1} (h:aBQ x y) (k:aBQ y z):aBQ x z:=⟨k.e0.trans h.e0,k.e1.trans h.e1,k.e2.trans h.e2,k.e3.trans h.e3,k.e4.trans h.e4,k.e5.trans h.e5,k.e6.trans h.e6,k.l7.trans h.l7,k.z7.trans h.z7,k.e8.trans h.e8,k.l9.trans h.l9,k.z9.trans h.z9,k.e10.trans h.e10,k.l11.trans h.l11,k.z11.trans h.z11,k.l12.trans h.l12,k.z12.trans h.z12,k.e13.trans h.e13,k.e14.trans h.e14,k.l15.trans h.l15,k.z15.trans h.z15,k.l16.trans h.l16,k.z16.trans h.z16,k.e17.trans h.e17,k.e18.trans h.e18,k.e19.trans h.e19,k.e20.trans h.e20,k.l21.trans h.l21,k.z21.trans h.z21,k.e22.trans h.e22,k.e23.trans h.e23⟩
theorem aSj {x X:aA1} (h:aBQ x X):rE X=rE x:=by unfold rE;rw [aKo h]
theorem aSk {x X:aA1} (h:aBQ x X):rS X=rS x:=by
 have e:mS X=mS x:=by
  unfold mS pF pL
  rw [aOq h]
 have l:tL X=tL x:=by
  unfold tL pL
  rw [aOq h]
 unfold rS
 rw [aKo h,e,l]
theorem aFB {x X:aA1} (h:aBQ x X):aAN X=aAN x:=by
 unfold aAN aD9 aDQ aGy
 rw [h.e2,h.e4,h.e10,h.e14,h.e18,h.e19,h.e20,h.l7,h.l9,h.l11,h.z11,h.l12,h.z12,h.l15,h.l16,h.l21,h.z21]
def NwL (B:Nat) (a:Option Addr) (n:Nat):Prop:=n=0∨∃ ad,a=some ad∧B≤ad.block
def AwL (b:Nat) (a:Option Addr) (n:Nat):Prop:=n=0∨∃ ad,a=some ad∧ad.block≠b
structure Nw (B:Nat) (X:aA1):Prop where
 p7:NwL B X.f7.a X.f7.n
 p9:NwL B X.f9.a X.f9.n
 p11:NwL B X.f11.a X.f11.n
 p12:NwL B X.f12.a X.f12.n
 p15:NwL B X.f15.a X.f15.n
 p16:NwL B X.f16.a X.f16.n
 p21:NwL B X.f21.a X.f21.n
structure Aw (b:Nat) (X:aA1):Prop where
 q7:AwL b X.f7.a X.f7.n
 q9:AwL b X.f9.a X.f9.n
 q11:AwL b X.f11.a X.f11.n
 q12:AwL b X.f12.a X.f12.n
 q15:AwL b X.f15.a X.f15.n
 q16:AwL b X.f16.a X.f16.n
 q21:AwL b X.f21.a X.f21.n
theorem NwL.aw {B b:Nat} {a:Option Addr} {n:Nat} (h:NwL B a n) (hb:b < B):AwL b a n:=by
 rcases h with h | ⟨ad,e,hB⟩
 ·exact .inl h
 ·exact .inr ⟨ad,e,by omega⟩
theorem NwL.mono {B C:Nat} {a:Option Addr} {n:Nat} (h:NwL B a n) (hb:C≤B):NwL C a n:=by
 rcases h with h | ⟨ad,e,hB⟩
 ·exact .inl h
 ·exact .inr ⟨ad,e,by omega⟩
theorem Nw.aw {B b:Nat} {X:aA1} (h:Nw B X) (hb:b < B):Aw b X:=⟨h.p7.aw hb,h.p9.aw hb,h.p11.aw hb,h.p12.aw hb,h.p15.aw hb,h.p16.aw hb,h.p21.aw hb⟩
theorem Nw.mono {B C:Nat} {X:aA1} (h:Nw B X) (hb:C≤B):Nw C X:=⟨h.p7.mono hb,h.p9.mono hb,h.p11.mono hb,h.p12.mono hb,h.p15.mono hb,h.p16.mono hb,h.p21.mono hb⟩
theorem aOH {w:World} {a:Option Addr} {n c:Nat} {f:Nat→Int} (h:Rts w a n c f) {b:Nat} (hb:w.heap.size≤b):AwL b a n:=by
 rcases h with ⟨_,h,_⟩ | ⟨_,_,h⟩ | ⟨k,off,e,_,hl,_⟩
 ·exact .inl h
 ·exact .inl h
 ·exact .inr ⟨_,e,by show k≠b;omega⟩
theorem aNZ {w:World} {a:Option Addr} {n c:Nat} {f:Nat→Int} (h:Bys w a n c f) {b:Nat} (hb:w.heap.size≤b):AwL b a n:=by
 rcases h with ⟨_,h,_⟩ | ⟨_,_,h⟩ | ⟨k,off,e,_,_,hl,_⟩
 ·exact .inl h
 ·exact .inl h
 ·exact .inr ⟨_,e,by show k≠b;omega⟩
theorem aOb {w:World} {a:Option Addr} {n k:Nat} {f:Nat→List Value} (h:Els w a n k f) {b:Nat} (hb:w.heap.size≤b):AwL b a n:=by
 rcases h with h | ⟨k,off,e,hl,_⟩
 ·exact .inl h
 ·exact .inr ⟨_,e,by show k≠b;omega⟩
theorem aOu {w:World} {a:Option Addr} {n:Nat} {f:Nat→Int} (h:Z.Nms .u64 w a n f) {b:Nat} (hb:w.heap.size≤b):AwL b a n:=by
 rcases h with h | ⟨k,off,e,hl,_⟩
 ·exact .inl h
 ·exact .inr ⟨_,e,by show k≠b;omega⟩
theorem InW.aw {w:World} {X:aA1} (h:InW w X) {b:Nat} (hb:w.heap.size≤b):Aw b X:=⟨aOH h.i7 hb,aOb h.i9 hb,aOb h.i11 hb,aOu h.i12 hb,aNZ h.i15 hb,aNZ h.i16 hb,aOu h.i21 hb⟩
theorem aEd {w w':World} {a:Option Addr} {n c b:Nat} {f:Nat→Int} (h:Rts w a n c f) (ha:AwL b a n) (hk:Kept b w w'):Rts w' a n c f:=by
 rcases h with h | h | ⟨k,off,e,h1,hl,hc⟩
 ·exact .inl h
 ·exact .inr (.inl h)
 ·rcases ha with h0 | ⟨ad,e2,hne⟩
  ·exact .inr (.inl ⟨_,e,h0⟩)
  ·rw [e] at e2
   cases e2
   exact .inr (.inr ⟨k,off,e,h1,Nat.lt_of_lt_of_le hl hk.size,fun j hj=>(hk.cell hl hne).trans (hc j hj)⟩)
theorem aIc {w w':World} {a:Option Addr} {n c b:Nat} {f:Nat→Int} (h:Bys w a n c f) (ha:AwL b a n) (hk:Kept b w w'):Bys w' a n c f:=by
 rcases h with h | h | ⟨k,off,e,h1,h2,hl,hc⟩
 ·exact .inl h
 ·exact .inr (.inl h)
 ·rcases ha with h0 | ⟨ad,e2,hne⟩
  ·subst h0
   exact .inr (.inr ⟨k,off,e,h1,h2,Nat.lt_of_lt_of_le hl hk.size,fun j hj=>absurd hj (Nat.not_lt_zero _)⟩)
  ·rw [e] at e2
   cases e2
   exact .inr (.inr ⟨k,off,e,h1,h2,Nat.lt_of_lt_of_le hl hk.size,fun j hj=>(hk.cell hl hne).trans (hc j hj)⟩)
theorem aIf {w w':World} {a:Option Addr} {n k b:Nat} {f:Nat→List Value} (h:Els w a n k f) (ha:AwL b a n) (hk:Kept b w w'):Els w' a n k f:=by
 rcases h with h | ⟨g,off,e,hl,hc⟩
 ·exact .inl h
 ·rcases ha with h0 | ⟨ad,e2,hne⟩
  ·exact .inl h0
  ·rw [e] at e2
   cases e2
   exact .inr ⟨g,off,e,Nat.lt_of_lt_of_le hl hk.size,fun i hi j u hj=>(hk.cell hl hne).trans (hc i hi j u hj)⟩
theorem aIA {w w':World} {a:Option Addr} {n b:Nat} {f:Nat→Int} (h:Z.Nms .u64 w a n f) (ha:AwL b a n) (hk:Kept b w w'):Z.Nms .u64 w' a n f:=by
 rcases h with h | ⟨g,off,e,hl,hc⟩
 ·exact .inl h
 ·rcases ha with h0 | ⟨ad,e2,hne⟩
  ·exact .inl h0
  ·rw [e] at e2
   cases e2
   exact .inr ⟨g,off,e,Nat.lt_of_lt_of_le hl hk.size,fun i hi=>(hk.cell hl hne).trans (hc i hi)⟩
theorem InW.kept {w w':World} {X:aA1} {b:Nat} (h:InW w X) (ha:Aw b X) (hk:Kept b w w'):InW w' X:=⟨aEd h.i7 ha.q7 hk,aIf h.i9 ha.q9 hk,aIf h.i11 ha.q11 hk,aIA h.i12 ha.q12 hk,aIc h.i15 ha.q15 hk,aIc h.i16 ha.q16 hk,aIA h.i21 ha.q21 hk⟩
structure Res (B:Nat) (w:World) (Y X:aA1):Prop where
 sim:aBQ Y X
 inw:InW w X
 nil:aGw X
 new:Nw B X
theorem Res.below {B:Nat} {w w':World} {Y X:aA1} (h:Res B w Y X) (hb:Below w.heap.size w w'):Res B w' Y X:=⟨h.sim,h.inw.below hb,h.nil,h.new⟩
theorem Res.to {B C:Nat} {w:World} {Y Z X:aA1} (h:Res B w Y X) (hB:C≤B) (hs:aBQ Z X):Res C w Z X:=⟨hs,h.inw,h.nil,h.new.mono hB⟩
theorem aHa (a b : aA1) (w : World) (ha : aAD a) (ia : InW w a) (ib : InW w b) (h : aBQ a b) :
    Calls Tryz.prog 9 #[.agg (cel (aA0 a)),.agg (cel (aA0 b))] w fun e w'=>e=.returned (.bool true)∧Below w.heap.size w w' :=
 aNl a b w ha (aG5 h ha) ia ib (aSj h) (aSk h)
theorem aVJ:aGw aAn:=⟨fun _=>⟨rfl,rfl⟩,fun _=>⟨rfl,rfl⟩,fun _=>⟨rfl,rfl⟩,fun _=>⟨rfl,rfl⟩⟩
theorem aVw (w:World):InW w aAn:=⟨.inl ⟨rfl,rfl,rfl⟩,.inl rfl,.inl rfl,.inl rfl,.inl ⟨rfl,rfl,rfl⟩,.inl ⟨rfl,rfl,rfl⟩,.inl rfl⟩
theorem nwO (B:Nat):Nw B aAn:=⟨.inl rfl,.inl rfl,.inl rfl,.inl rfl,.inl rfl,.inl rfl,.inl rfl⟩
theorem aMl (B:Nat) (w:World):Res B w aAn aAn:=⟨.refl _,aVw w,aVJ,nwO B⟩
theorem aG6 {w:World} {B k:Nat} {t:TypeId} {a:Option Addr} {n c:Nat} {xs:List Value} (h:w.ownsRow B t k (.slice a n c) n xs) (ha:a=none):n=0∧c=0:=by
 rcases h.2 with ⟨hv,h0⟩ | ⟨g,cap,cur,hv,_⟩
 ·cases hv;exact ⟨h0,rfl⟩
 ·cases hv;cases ha
theorem aEJ.nil {B:Nat} {w:World} {X:aA1} (h:aEJ B w X):aGw X:=⟨aG6 h.o9,aG6 h.o11,aG6 h.o12,aG6 h.o21⟩
theorem aDC {w:World} {B k:Nat} {t:TypeId} {a:Option Addr} {n c:Nat} {xs:List Value} (h:w.ownsRow B t k (.slice a n c) n xs):NwL B a n:=by
 rcases aF6 h with h0 | ⟨g,e,hB,_⟩
 ·exact .inl h0
 ·exact .inr ⟨_,e,hB⟩
theorem aEJ.nw {B:Nat} {w:World} {X:aA1} (h:aEJ B w X):Nw B X:=⟨aDC h.o7,aDC h.o9,aDC h.o11,aDC h.o12,aDC h.o15,aDC h.o16,aDC h.o21⟩
theorem BF.res {w V:World} {y:Nat} {Y:aA1} (h:BF w y V Y):Res w.heap.size V Y Y:=⟨.refl _,h.inW,h.cpd.nil,h.cpd.nw⟩
theorem BF.cells {w V:World} {y:Nat} {Y Y':aA1} (h:BF w y V Y) (hy:w.heap.size≤y) (o:Nat) (l:List Value) (he:aL5 (cel (aA0 Y)) o l=cel (aA0 Y')) (e7:Y'.f7=Y.f7) (e9:Y'.f9=Y.f9) (e11:Y'.f11=Y.f11) (e12:Y'.f12=Y.f12) (e15:Y'.f15=Y.f15) (e16:Y'.f16=Y.f16) (e21:Y'.f21=Y.f21):BF w y (V.setCells y o l) Y':=by
 have hk:Kept y V (V.setCells y o l):=aBk l o (Kept.refl y V)
 refine ⟨h.bel.trans (hk.below hy h.bel.size),(aCz l o h.row).trans (congrArg (fun c=>some (Obj.cells c 49)) he),⟨?_,?_,?_,?_,?_,?_,?_,?_,?_⟩⟩
 ·rw [e7];exact aA9 h.cpd.o7 hk (aAx h.cpd.o7 h.row (by decide))
 ·rw [e9];exact aA9 h.cpd.o9 hk (aAx h.cpd.o9 h.row (by decide))
 ·rw [e11];exact aA9 h.cpd.o11 hk (aAx h.cpd.o11 h.row (by decide))
 ·rw [e12];exact aA9 h.cpd.o12 hk (aAx h.cpd.o12 h.row (by decide))
 ·rw [e15];exact aA9 h.cpd.o15 hk (aAx h.cpd.o15 h.row (by decide))
 ·rw [e16];exact aA9 h.cpd.o16 hk (aAx h.cpd.o16 h.row (by decide))
 ·rw [e21];exact aA9 h.cpd.o21 hk (aAx h.cpd.o21 h.row (by decide))
 ·rw [e15,e16];exact h.cpd.d15
 ·rw [e12,e21];exact h.cpd.d12
def aMV (f:Nat→Int) (n:Nat):List Lit:=(List.range n).map fun j=>Lit.int .u8 (f j)
theorem aEN (f:Nat→Int) (n:Nat):(aMV f n).length=n:=by simp [aMV]
theorem aG0 {f g:Nat→Int} {n:Nat}:aMV f n=aMV g n↔∀ j,j < n→f j=g j:=by
 unfold aMV
 rw [List.map_inj_left]
 constructor
 ·intro h j hj
  exact (Lit.int.inj (h j (List.mem_range.2 hj))).2
 ·intro h j hj
  rw [h j (List.mem_range.1 hj)]
theorem aKM {α β:Type} {f:α→Option β} {g:α→β}:∀ {l:List α},(∀ i ∈ l,f i=some (g i))→l.mapM f=some (l.map g)
 | [], _ => by simp
 | i :: l, h => by
  have h1:=h i (List.mem_cons_self ..)
  have h2:=aKM (l:=l) fun j hj=>h j (List.mem_cons_of_mem _ hj)
  simp [List.mapM_cons,h1,h2]
theorem aGH {α β:Type} (g:α→β):∀ l:List α,(l.map fun i=>[g i]).flatten=l.map g
 | [] => rfl
 | i :: l => by
  show [g i]++(l.map fun i=>[g i]).flatten=_
  rw [aGH g l]
  rfl
theorem aHE {t:TypeId} {n:Nat} (hu:Tryz.prog.underlying t=some (.array n 5)) (hc:Tryz.prog.cellsOf t=n) (d:Nat) (f:Nat→Int) (h:∀ j,j < n→0≤f j∧f j < 256):Tryz.prog.keyLits (d+2) t (bl f n)=some (aMV f n):=by
 have c1:Tryz.prog.cellsOf 5=1:=by kernel_rfl
 have e:(List.range n).mapM (fun i=>Tryz.prog.keyLits (d+1) 5 (((bl f n).drop (i*Tryz.prog.cellsOf 5)).take (Tryz.prog.cellsOf 5)))=some ((List.range n).map fun i=>[Lit.int .u8 (f i)]):=aKM fun i hi=>by
  have hi:=List.mem_range.1 hi
  rw [c1,Nat.mul_one,aOZ f n i 1 (by omega)]
  exact aPu d (f (i+0)) (h i hi)
 unfold Program.keyLits
 rw [hu]
 show (if (bl f n).length=Tryz.prog.cellsOf t then _ else none)=_
 rw [if_pos (by rw [aAV,hc]),e]
 exact congrArg some (aGH (fun i=>Lit.int .u8 (f i)) (List.range n))
theorem aIs (d:Nat) (c:Int) (h:0≤c∧c < 18446744073709551616):Tryz.prog.keyLits (d+1) 22 [.int .u64 c]=some [.int .u64 c]:=by
 have hw:(Lit.int .u64 c).wf=true:=by
  have:IntKind.u64.min=0∧IntKind.u64.max=18446744073709551615:=by decide
  simp [Lit.wf,this]
  omega
 simp [Program.keyLits,Tryz.underlying22,hw]
theorem aHy {c d:Nat→Int}:eqR c d=true↔∀ j,j < 32→c j=d j:=by
 unfold eqR
 rw [List.all_eq_true]
 constructor
 ·intro h j hj
  exact eq_of_beq (h j (List.mem_range.2 hj))
 ·intro h j hj
  rw [h j (List.mem_range.1 hj)]
  exact beq_self_eq_true _
def aVv (x y:Value):Sem Value:=binOp .eql 34 x y
theorem aKm (x y:Value):binOp .eql 34 x y=aVv x y:=rfl
end
section
open Go.RowKit
set_option linter.unusedVariables false
set_option linter.unusedSimpArgs false
set_option maxRecDepth 20000
def eqH (a b:aB6):Bool:=decide (a.f0=b.f0) && (decide (a.f1=b.f1) && (eqR a.f2 b.f2 && (eqR a.f3 b.f3 && eqR a.f4 b.f4)))
def aRH (v:aB6):List Lit:=[.int .u64 v.f0]++([.int .u64 v.f1]++(aMV v.f2 32++(aMV v.f3 32++(aMV v.f4 32++[]))))
theorem aMU (a b:aB6):aRH a=aRH b↔eqH a b=true:=by
 unfold aRH eqH
 rw [Bool.and_eq_true,Bool.and_eq_true,Bool.and_eq_true,Bool.and_eq_true,decide_eq_true_iff,decide_eq_true_iff,aHy,aHy,aHy,←aG0 (n:=32),←aG0 (n:=32),←aG0 (n:=32)]
 constructor
 ·intro h
  obtain ⟨h1,h2⟩:=List.append_inj h rfl
  obtain ⟨h3,h4⟩:=List.append_inj h2 rfl
  obtain ⟨h5,h6⟩:=List.append_inj h4 (by rw [aEN,aEN])
  obtain ⟨h7,h8⟩:=List.append_inj h6 (by rw [aEN,aEN])
  rw [List.append_nil,List.append_nil] at h8
  exact ⟨(Lit.int.inj (List.cons.inj h1).1).2,(Lit.int.inj (List.cons.inj h3).1).2,h5,h7,h8⟩
 ·rintro ⟨h1,h2,h3,h4,h5⟩
  rw [h1,h2,h3,h4,h5]
theorem aP4 (v:aB6):aAW (aAm v)=[Value.int .u64 v.f0]++([Value.int .u64 v.f1]++(bl v.f2 32++(bl v.f3 32++bl v.f4 32))):=by
 show [Value.int .u64 v.f0]++([Value.int .u64 v.f1]++((List.range 32).map _++((List.range 32).map _++((List.range 32).map _++[]))))=_
 rw [List.append_nil]
 rfl
theorem aOm (v:aB6) (h:aBV v):Tryz.prog.keyLits 5 30 (aAW (aAm v))=some (aRH v):=by
 have c1:Tryz.prog.cellsOf 24=32:=by kernel_rfl
 have c2:Tryz.prog.cellsOf 22=1:=by kernel_rfl
 have c3:Tryz.prog.cellsOf 30=98:=by kernel_rfl
 have h1:=aIs 3 v.f0 h.1
 have h2:=aIs 3 v.f1 h.2.1
 have h3:=aHE Tryz.underlying24 c1 2 v.f2 h.2.2.1
 have h4:=aHE Tryz.underlying24 c1 2 v.f3 h.2.2.2.1
 have h5:=aHE Tryz.underlying24 c1 2 v.f4 h.2.2.2.2
 have e1:(aAW (aAm v)).take 1=[.int .u64 v.f0]:=by rw [aP4];rfl
 have e2:(aAW (aAm v)).tail.take 1=[.int .u64 v.f1]:=by rw [aP4];rfl
 have d2:(aAW (aAm v)).drop 2=bl v.f2 32++(bl v.f3 32++bl v.f4 32):=by rw [aP4];rfl
 have e3:((aAW (aAm v)).drop 2).take 32=bl v.f2 32:=by rw [d2,List.take_left' (aAV _ _)]
 have e4:((aAW (aAm v)).drop 34).take 32=bl v.f3 32:=by
  rw [show 34=2+32 from rfl,←List.drop_drop,d2,List.drop_left' (aAV _ _),List.take_left' (aAV _ _)]
 have e5:((aAW (aAm v)).drop 66).take 32=bl v.f4 32:=by
  rw [show 66=2+32+32 from rfl,←List.drop_drop,←List.drop_drop,d2,List.drop_left' (aAV _ _),List.drop_left' (aAV _ _)]
  exact List.take_of_length_le (by rw [aAV];omega)
 have hu:=Tryz.underlying30
 unfold Program.keyLits
 rw [hu]
 show (if (aAW (aAm v)).length=Tryz.prog.cellsOf 30∧_ then _ else none)=_
 rw [if_pos ⟨by rw [aAC,c3];rfl,by kernel_rfl⟩]
 simp [List.mapM_cons,c1,c2,e1,e2,e3,e4,e5,h1,h2,h3,h4,h5,aRH]
def aTp (x y:Value):Sem Value:=binOp .eql 30 x y
theorem aKn (x y:Value):binOp .eql 30 x y=aTp x y:=rfl
theorem aIh (w:World) (a b:aB6) (ha:aBV a) (hb:aBV b):(aTp (.agg (cel (aAm a))) (.agg (cel (aAm b)))).run Tryz.prog w=.ok (.bool (eqH a b)) w:=by
 have hk:Tryz.prog.keyTypeAt 5 30=true:=by kernel_rfl
 have hf:∀ v:aB6,(Value.agg (cel (aAm v))).formed Tryz.prog 30=true:=fun v=>by
  simp only [Value.formed,Tryz.underlying30]
  rw [aAT,show aCa (aAm v)=98 from rfl]
  kernel_rfl
 obtain ⟨r,h1,h2⟩:=run_equalIn_deep (P:=Tryz.prog) 9995 5 30 hk w 5 5 (.agg (cel (aAm a))) (.agg (cel (aAm b))) _ _ (hf a) (hf b) (aOm a ha) (aOm b hb)
 rw [aMU] at h2
 have hr:eqH a b=r:=by
  cases r
  ·cases h:eqH a b
   ·rfl
   ·exact absurd (h2.2 h) (by decide)
  ·exact h2.1 rfl
 have h3:(Op.equalIn Op.maxDepth 30 (.agg (cel (aAm a))) (.agg (cel (aAm b)))).run Tryz.prog w=.ok (eqH a b) w:=by rw [hr];exact h1
 unfold aTp
 simp [binOp,Op.equal,h3]
end
end Go.Proofs.YtdjplhibmomajaaGreatDoor
