/- A part. -/
import Derived.Test.YtfgmddnfhphdeaaGreatDoorSuB
import Derived.Test.YtfgmddnfhphdeaaGreatDoorStP
import Derived.Test.YtfgmddnfhphdeaaGreatDoorQH
import Derived.Test.YtfgmddnfhphdeaaGreatDoorStY
import Derived.Test.YtfgmddnfhphdeaaGreatDoorHaA
import Derived.Test.YtfgmddnfhphdeaaGreatDoorQL
import Derived.SizedLaws
namespace Go.Proofs.YtfgmddnfhphdeaaGreatDoor
open Go.RowKit
set_option linter.unusedVariables false
set_option linter.unusedSimpArgs false
section
open Go.RowKit
set_option linter.unusedVariables false
set_option linter.unusedSimpArgs false
set_option maxRecDepth 20000
def rE (x:VState):Int:=if fitB x=true then 0 else 6
def rS (x:VState):ByteArray:=if fitB x=true then Z.strF (mS x) (tL x) else Z.strF (mS x) 0
theorem renc_str (x : VState) (w : World) (hx : OkState x) (hw : InW w x) (E : Int) (hE : rE x = E) (s : ByteArray) (hs : rS x = s) :
    Calls Tryz.prog 29 #[.agg (cel (sState x))] w fun e w'=>∃ a n c,e=.returned (.tuple #[.slice a n c,.int .i64 E])∧(∀ X,Below w'.heap.size w' X→(convert 39 9 (.slice a n c)).run Tryz.prog X=.ok (.string s) X)∧Below w.heap.size w w':=by
 refine (renc_any x w hx hw).mono ?_
 rintro e w' ⟨a,n,c,E',rfl,h | h,hb⟩
 ·obtain ⟨hf,rfl,rfl,hy⟩:=h
  unfold rE at hE
  unfold rS at hs
  rw [if_pos hf] at hE hs
  rw [←hE,←hs]
  exact ⟨a,_,c,rfl,fun X hX=>Z.conv_bys X a _ c _ (hy.below hX),hb⟩
 ·obtain ⟨hf,rfl,rfl,rfl,rfl⟩:=h
  unfold rE at hE
  unfold rS at hs
  rw [if_neg (by rw [hf];decide)] at hE hs
  rw [←hE,←hs]
  exact ⟨none,0,0,rfl,fun X hX=>Z.conv_bys X none 0 0 (mS x) (.inl ⟨rfl,rfl,rfl⟩),hb⟩
attribute [local go_sem ↓] lvState_eq svState_eq
set_option maxHeartbeats 4000000 in
theorem rsame_eq (a b : VState) (w : World) (ha : OkState a) (hb : OkState b) (ia : InW w a) (ib : InW w b) (hE : rE b = rE a) (hS : rS b = rS a) :
    Calls Tryz.prog 10 #[.agg (cel (sState a)),.agg (cel (sState b))] w fun e w'=>e=.returned (.bool true)∧Below w.heap.size w w':=by
 obtain ⟨W1,hW1⟩:∃ W,w.alloc (.cells (cel (sState a)) 49)=W:=⟨_,rfl⟩
 obtain ⟨W2,hW2⟩:∃ W,W1.alloc (.cells (cel (sState b)) 49)=W:=⟨_,rfl⟩
 have z1:W1.heap.size=w.heap.size+1:=by rw [←hW1];simp
 obtain ⟨y1,ey1⟩:∃ y,w.heap.size=y:=⟨_,rfl⟩
 obtain ⟨y2,ey2⟩:∃ y,W1.heap.size=y:=⟨_,rfl⟩
 have r1:W2.heap[y1]?=some (.cells (cel (sState a)) 49):=by
  rw [←hW2,←ey1]
  refine (heap_old (by omega)).trans ?_
  rw [←hW1]
  exact heap_new rfl
 have r2:W2.heap[y2]?=some (.cells (cel (sState b)) 49):=by
  rw [←hW2,←ey2]
  exact heap_new rfl
 have hB:Below w.heap.size w W2:=by
  rw [←hW2,←hW1]
  exact ((Below.refl _ _).alloc (Nat.le_refl _) _).alloc (by simp) _
 obtain ⟨E,eE⟩:∃ E,rE a=E:=⟨_,rfl⟩
 obtain ⟨S,eS⟩:∃ S,rS a=S:=⟨_,rfl⟩
 have lv1:=lvState_run r1
 have HA:=hid (renc_str a W2 ha (ia.below hB) E eE S eS)
 have HBB:Hid (∀ X,Below W2.heap.size W2 X→Calls Tryz.prog 29 #[.agg (cel (sState b))] X fun e w'=>∃ a n c,e=.returned (.tuple #[.slice a n c,.int .i64 E])∧(∀ Y,Below w'.heap.size w' Y→(convert 39 9 (.slice a n c)).run Tryz.prog Y=.ok (.string S) Y)∧Below X.heap.size X w'):=fun X h=>renc_str b X hb (ib.below (hB.trans (h.mono hB.size))) E (hE.trans eE) S (hS.trans eS)
 have HL2:Hid (∀ X,Below W2.heap.size W2 X→(lvState ⟨y2,0,none⟩).run Tryz.prog X=.ok (.agg (cel (sState b))) X):=fun X h=>lvState_run ((h.block y2 (some_lt r2)).trans r2)
 have HB:=hid hB
 clear r1 r2 hB eE eS ha hb ia ib hE hS z1
 go_enter Tryz.func10,Tryz.ntmps10
 go_upto_region 1 with fail
 clear hW1 hW2 ey1 ey2
 go_upto_region 2 with (go_at_call 29;refine HA.out.mono ?_;rintro e w3 ⟨a3,n3,c3,rfl,hcv,hb3⟩;have C3:=hid hcv;have lv2:=HL2.out w3 hb3;have HC:=hid (HBB.out w3 hb3);have HB3:=hid (HB.out.trans (hb3.mono HB.out.size));clear hcv hb3)
 go_upto_region 3 with (go_at_call 29;refine HC.out.mono ?_;rintro e w4 ⟨a4,n4,c4,rfl,hcv,hb4⟩;have cv4:=hcv w4 (Below.refl _ _);have cv3:=C3.out w4 hb4;have HB4:=hid (HB3.out.trans (hb4.mono HB3.out.size));clear hcv hb4)
 go_wp2
 go_ret
 exact ⟨rfl,HB4.out⟩
end
section
open Go.RowKit
set_option linter.unusedVariables false
set_option linter.unusedSimpArgs false
set_option maxRecDepth 20000
theorem each_all {H:Type} {P:Program} {f:Nat→Bool}:∀ {ts:List TypeId} {ds:List (DataW H)},(DataW.weightsEach P ts ds).all f=true→∀ {j:Nat} {t:TypeId} {d:DataW H},ts[j]?=some t→ds[j]?=some d→(d.weights P t).all f=true
 | [], _, _, _, _, _, ht, _ => by simp at ht
 | _ :: _, [], _, _, _, _, _, hd => by simp at hd
 | t0 :: ts, d0 :: ds, h, 0, t, d, ht, hd => by
  unfold DataW.weightsEach at h
  rw [List.all_append,Bool.and_eq_true] at h
  simp at ht hd
  subst ht hd
  exact h.1
 | t0 :: ts, d0 :: ds, h, j + 1, t, d, ht, hd => by
  unfold DataW.weightsEach at h
  rw [List.all_append,Bool.and_eq_true] at h
  exact each_all h.2 (by simpa using ht) (by simpa using hd)
theorem sl_reach {H : Type} {enc : TypeId × Value → H} {P : Program} {w : World} {b0 fuel : Nat} {sp : Nat → Bool} {held : Bool} {t e : TypeId} {a : Option Addr} {n c B : Nat} {y : DataW H × List MemPlace}
    (hu:P.underlying t=some (.slice e)) (hB:P.bytesOf e=B) (h:DataW.trod enc P w b0 sp held fuel t [.slice a n c]=some y) (hw:(y.1.weights P t).all (·≤reachBytes)=true):n*B≤140737488351232:=by
 rcases DataW.trod_slice hu h with ⟨hcs,hx⟩ | ⟨x,l,cp,el,rest,m,_,hcs,hx,_,_,_,hel,_⟩
 ·cases hcs
  simp
 ·cases hcs
  subst hx
  unfold DataW.weights at hw
  simp only [hu,List.all_cons,Bool.and_eq_true,decide_eq_true_eq,List.length_map,hB] at hw
  have h1:((el.length+rest.length)*B)≤140737488351232:=hw.1
  exact Nat.le_trans (Nat.mul_le_mul_right B (by omega)) h1
def Rch (x:VState):Prop:=x.f7.n*32≤140737488351232∧x.f9.n*72≤140737488351232∧x.f11.n*128≤140737488351232∧x.f12.n*8≤140737488351232∧x.f15.n≤140737488351232∧x.f16.n≤140737488351232∧x.f21.n*8≤140737488351232
set_option maxRecDepth 100000 in
set_option maxHeartbeats 2000000 in
theorem state_reach {H:Type} {enc:TypeId × Value→H} {w:World} {b0:Nat} {held:Bool} {x:VState} {d:DataW H} {p:List MemPlace} (h:DataW.Trod enc Tryz.prog w b0 (fun _=>true) held 49 (.agg (cel (sState x))) d p) (hs:(d.weights Tryz.prog 49).all (·≤reachBytes)=true):Rch x:=by
 obtain ⟨fuel,hf⟩:=h
 obtain ⟨xs,n,_,hd,_,hxl,hat⟩:=DataW.trod_struct Tryz.underlying49 hf
 have hd1:d=.agg (xs.map (·.1)):=congrArg Prod.fst hd
 have hx:xs.length=24:=hxl
 rw [hd1] at hs
 unfold DataW.weights at hs
 rw [Tryz.underlying49] at hs
 have h7:=hat 7 _ rfl
 rw [List.getElem?_eq_getElem (by omega)] at h7
 replace h7:DataW.trod enc Tryz.prog w b0 (fun _=>true) held n 32 (((cel (sState x)).toList.drop 653).take (Tryz.prog.cellsOf 32))=some xs[7]:=h7
 rw [show Tryz.prog.cellsOf 32=1 by kernel_rfl,show ((cel (sState x)).toList.drop 653).take 1=[.slice x.f7.a x.f7.n x.f7.c] by kernel_rfl] at h7
 have q7:=sl_reach (B:=32) Tryz.underlying32 (by kernel_rfl) h7 (each_all hs (j:=7) (t:=32) (d:=xs[7].1) (by kernel_rfl) (by rw [List.getElem?_map,List.getElem?_eq_getElem (by omega)];rfl))
 have h9:=hat 9 _ rfl
 rw [List.getElem?_eq_getElem (by omega)] at h9
 replace h9:DataW.trod enc Tryz.prog w b0 (fun _=>true) held n 35 (((cel (sState x)).toList.drop 719).take (Tryz.prog.cellsOf 35))=some xs[9]:=h9
 rw [show Tryz.prog.cellsOf 35=1 by kernel_rfl,show ((cel (sState x)).toList.drop 719).take 1=[.slice x.f9.a x.f9.n x.f9.c] by kernel_rfl] at h9
 have q9:=sl_reach (B:=72) Tryz.underlying35 (by kernel_rfl) h9 (each_all hs (j:=9) (t:=35) (d:=xs[9].1) (by kernel_rfl) (by rw [List.getElem?_map,List.getElem?_eq_getElem (by omega)];rfl))
 have h11:=hat 11 _ rfl
 rw [List.getElem?_eq_getElem (by omega)] at h11
 replace h11:DataW.trod enc Tryz.prog w b0 (fun _=>true) held n 36 (((cel (sState x)).toList.drop 721).take (Tryz.prog.cellsOf 36))=some xs[11]:=h11
 rw [show Tryz.prog.cellsOf 36=1 by kernel_rfl,show ((cel (sState x)).toList.drop 721).take 1=[.slice x.f11.a x.f11.n x.f11.c] by kernel_rfl] at h11
 have q11:=sl_reach (B:=128) Tryz.underlying36 (by kernel_rfl) h11 (each_all hs (j:=11) (t:=36) (d:=xs[11].1) (by kernel_rfl) (by rw [List.getElem?_map,List.getElem?_eq_getElem (by omega)];rfl))
 have h12:=hat 12 _ rfl
 rw [List.getElem?_eq_getElem (by omega)] at h12
 replace h12:DataW.trod enc Tryz.prog w b0 (fun _=>true) held n 37 (((cel (sState x)).toList.drop 722).take (Tryz.prog.cellsOf 37))=some xs[12]:=h12
 rw [show Tryz.prog.cellsOf 37=1 by kernel_rfl,show ((cel (sState x)).toList.drop 722).take 1=[.slice x.f12.a x.f12.n x.f12.c] by kernel_rfl] at h12
 have q12:=sl_reach (B:=8) Tryz.underlying37 (by kernel_rfl) h12 (each_all hs (j:=12) (t:=37) (d:=xs[12].1) (by kernel_rfl) (by rw [List.getElem?_map,List.getElem?_eq_getElem (by omega)];rfl))
 have h15:=hat 15 _ rfl
 rw [List.getElem?_eq_getElem (by omega)] at h15
 replace h15:DataW.trod enc Tryz.prog w b0 (fun _=>true) held n 39 (((cel (sState x)).toList.drop 987).take (Tryz.prog.cellsOf 39))=some xs[15]:=h15
 rw [show Tryz.prog.cellsOf 39=1 by kernel_rfl,show ((cel (sState x)).toList.drop 987).take 1=[.slice x.f15.a x.f15.n x.f15.c] by kernel_rfl] at h15
 have q15:=sl_reach (B:=1) Tryz.underlying39 (by kernel_rfl) h15 (each_all hs (j:=15) (t:=39) (d:=xs[15].1) (by kernel_rfl) (by rw [List.getElem?_map,List.getElem?_eq_getElem (by omega)];rfl))
 have h16:=hat 16 _ rfl
 rw [List.getElem?_eq_getElem (by omega)] at h16
 replace h16:DataW.trod enc Tryz.prog w b0 (fun _=>true) held n 39 (((cel (sState x)).toList.drop 988).take (Tryz.prog.cellsOf 39))=some xs[16]:=h16
 rw [show Tryz.prog.cellsOf 39=1 by kernel_rfl,show ((cel (sState x)).toList.drop 988).take 1=[.slice x.f16.a x.f16.n x.f16.c] by kernel_rfl] at h16
 have q16:=sl_reach (B:=1) Tryz.underlying39 (by kernel_rfl) h16 (each_all hs (j:=16) (t:=39) (d:=xs[16].1) (by kernel_rfl) (by rw [List.getElem?_map,List.getElem?_eq_getElem (by omega)];rfl))
 have h21:=hat 21 _ rfl
 rw [List.getElem?_eq_getElem (by omega)] at h21
 replace h21:DataW.trod enc Tryz.prog w b0 (fun _=>true) held n 37 (((cel (sState x)).toList.drop 1092).take (Tryz.prog.cellsOf 37))=some xs[21]:=h21
 rw [show Tryz.prog.cellsOf 37=1 by kernel_rfl,show ((cel (sState x)).toList.drop 1092).take 1=[.slice x.f21.a x.f21.n x.f21.c] by kernel_rfl] at h21
 have q21:=sl_reach (B:=8) Tryz.underlying37 (by kernel_rfl) h21 (each_all hs (j:=21) (t:=37) (d:=xs[21].1) (by kernel_rfl) (by rw [List.getElem?_map,List.getElem?_eq_getElem (by omega)];rfl))
 exact ⟨q7,q9,q11,q12,by omega,by omega,q21⟩
end
section
open Go.RowKit
set_option linter.unusedVariables false
set_option linter.unusedSimpArgs false
set_option maxRecDepth 20000
theorem SimF.refl (x:VState):SimF x x:=⟨rfl,rfl,rfl,rfl,rfl,rfl,rfl,rfl,rfl,rfl,rfl,rfl,rfl,rfl,rfl,rfl,rfl,rfl,rfl,rfl,rfl,rfl,rfl,rfl,rfl,rfl,rfl,rfl,rfl,rfl,rfl⟩
theorem SimF.symm {x y:VState} (h:SimF x y):SimF y x:=⟨h.e0.symm,h.e1.symm,h.e2.symm,h.e3.symm,h.e4.symm,h.e5.symm,h.e6.symm,h.l7.symm,h.z7.symm,h.e8.symm,h.l9.symm,h.z9.symm,h.e10.symm,h.l11.symm,h.z11.symm,h.l12.symm,h.z12.symm,h.e13.symm,h.e14.symm,h.l15.symm,h.z15.symm,h.l16.symm,h.z16.symm,h.e17.symm,h.e18.symm,h.e19.symm,h.e20.symm,h.l21.symm,h.z21.symm,h.e22.symm,h.e23.symm⟩
theorem SimF.trans {x y z:VState} (h:SimF x y) (k:SimF y z):SimF x z:=⟨k.e0.trans h.e0,k.e1.trans h.e1,k.e2.trans h.e2,k.e3.trans h.e3,k.e4.trans h.e4,k.e5.trans h.e5,k.e6.trans h.e6,k.l7.trans h.l7,k.z7.trans h.z7,k.e8.trans h.e8,k.l9.trans h.l9,k.z9.trans h.z9,k.e10.trans h.e10,k.l11.trans h.l11,k.z11.trans h.z11,k.l12.trans h.l12,k.z12.trans h.z12,k.e13.trans h.e13,k.e14.trans h.e14,k.l15.trans h.l15,k.z15.trans h.z15,k.l16.trans h.l16,k.z16.trans h.z16,k.e17.trans h.e17,k.e18.trans h.e18,k.e19.trans h.e19,k.e20.trans h.e20,k.l21.trans h.l21,k.z21.trans h.z21,k.e22.trans h.e22,k.e23.trans h.e23⟩
theorem rE_sim {x X:VState} (h:SimF x X):rE X=rE x:=by unfold rE;rw [fit_sim h]
theorem rS_sim {x X:VState} (h:SimF x X):rS X=rS x:=by
 have e:mS X=mS x:=by
  unfold mS pF pL
  rw [mS_sim h]
 have l:tL X=tL x:=by
  unfold tL pL
  rw [mS_sim h]
 unfold rS
 rw [fit_sim h,e,l]
theorem rightF {x X:VState} (h:SimF x X):rightB X=rightB x:=by
 unfold rightB fitB lensB timB
 rw [h.e2,h.e4,h.e10,h.e14,h.e18,h.e19,h.e20,h.l7,h.l9,h.l11,h.z11,h.l12,h.z12,h.l15,h.l16,h.l21,h.z21]
def NwL (B:Nat) (a:Option Addr) (n:Nat):Prop:=n=0∨∃ ad,a=some ad∧B≤ad.block
def AwL (b:Nat) (a:Option Addr) (n:Nat):Prop:=n=0∨∃ ad,a=some ad∧ad.block≠b
structure Nw (B:Nat) (X:VState):Prop where
 p7:NwL B X.f7.a X.f7.n
 p9:NwL B X.f9.a X.f9.n
 p11:NwL B X.f11.a X.f11.n
 p12:NwL B X.f12.a X.f12.n
 p15:NwL B X.f15.a X.f15.n
 p16:NwL B X.f16.a X.f16.n
 p21:NwL B X.f21.a X.f21.n
structure Aw (b:Nat) (X:VState):Prop where
 q7:AwL b X.f7.a X.f7.n
 q9:AwL b X.f9.a X.f9.n
 q11:AwL b X.f11.a X.f11.n
 q12:AwL b X.f12.a X.f12.n
 q15:AwL b X.f15.a X.f15.n
 q16:AwL b X.f16.a X.f16.n
 q21:AwL b X.f21.a X.f21.n
theorem NwL.aw {B b:Nat} {a:Option Addr} {n:Nat} (h:NwL B a n) (hb:b < B):AwL b a n:=by
 rcases h with h | ⟨ad,e,hB⟩
 ·exact .inl h
 ·exact .inr ⟨ad,e,by omega⟩
theorem NwL.mono {B C:Nat} {a:Option Addr} {n:Nat} (h:NwL B a n) (hb:C≤B):NwL C a n:=by
 rcases h with h | ⟨ad,e,hB⟩
 ·exact .inl h
 ·exact .inr ⟨ad,e,by omega⟩
theorem Nw.aw {B b:Nat} {X:VState} (h:Nw B X) (hb:b < B):Aw b X:=⟨h.p7.aw hb,h.p9.aw hb,h.p11.aw hb,h.p12.aw hb,h.p15.aw hb,h.p16.aw hb,h.p21.aw hb⟩
theorem Nw.mono {B C:Nat} {X:VState} (h:Nw B X) (hb:C≤B):Nw C X:=⟨h.p7.mono hb,h.p9.mono hb,h.p11.mono hb,h.p12.mono hb,h.p15.mono hb,h.p16.mono hb,h.p21.mono hb⟩
theorem rts_aw {w:World} {a:Option Addr} {n c:Nat} {f:Nat→Int} (h:Rts w a n c f) {b:Nat} (hb:w.heap.size≤b):AwL b a n:=by
 rcases h with ⟨_,h,_⟩ | ⟨_,_,h⟩ | ⟨k,off,e,_,hl,_⟩
 ·exact .inl h
 ·exact .inl h
 ·exact .inr ⟨_,e,by show k≠b;omega⟩
theorem bys_aw {w:World} {a:Option Addr} {n c:Nat} {f:Nat→Int} (h:Bys w a n c f) {b:Nat} (hb:w.heap.size≤b):AwL b a n:=by
 rcases h with ⟨_,h,_⟩ | ⟨_,_,h⟩ | ⟨k,off,e,_,_,hl,_⟩
 ·exact .inl h
 ·exact .inl h
 ·exact .inr ⟨_,e,by show k≠b;omega⟩
theorem els_aw {w:World} {a:Option Addr} {n k:Nat} {f:Nat→List Value} (h:Els w a n k f) {b:Nat} (hb:w.heap.size≤b):AwL b a n:=by
 rcases h with h | ⟨k,off,e,hl,_⟩
 ·exact .inl h
 ·exact .inr ⟨_,e,by show k≠b;omega⟩
theorem nms_aw {w:World} {a:Option Addr} {n:Nat} {f:Nat→Int} (h:Z.Nms .u64 w a n f) {b:Nat} (hb:w.heap.size≤b):AwL b a n:=by
 rcases h with h | ⟨k,off,e,hl,_⟩
 ·exact .inl h
 ·exact .inr ⟨_,e,by show k≠b;omega⟩
theorem InW.aw {w:World} {X:VState} (h:InW w X) {b:Nat} (hb:w.heap.size≤b):Aw b X:=⟨rts_aw h.i7 hb,els_aw h.i9 hb,els_aw h.i11 hb,nms_aw h.i12 hb,bys_aw h.i15 hb,bys_aw h.i16 hb,nms_aw h.i21 hb⟩
theorem rts_kept {w w':World} {a:Option Addr} {n c b:Nat} {f:Nat→Int} (h:Rts w a n c f) (ha:AwL b a n) (hk:Kept b w w'):Rts w' a n c f:=by
 rcases h with h | h | ⟨k,off,e,h1,hl,hc⟩
 ·exact .inl h
 ·exact .inr (.inl h)
 ·rcases ha with h0 | ⟨ad,e2,hne⟩
  ·exact .inr (.inl ⟨_,e,h0⟩)
  ·rw [e] at e2
   cases e2
   exact .inr (.inr ⟨k,off,e,h1,Nat.lt_of_lt_of_le hl hk.size,fun j hj=>(hk.cell hl hne).trans (hc j hj)⟩)
theorem bys_kept {w w':World} {a:Option Addr} {n c b:Nat} {f:Nat→Int} (h:Bys w a n c f) (ha:AwL b a n) (hk:Kept b w w'):Bys w' a n c f:=by
 rcases h with h | h | ⟨k,off,e,h1,h2,hl,hc⟩
 ·exact .inl h
 ·exact .inr (.inl h)
 ·rcases ha with h0 | ⟨ad,e2,hne⟩
  ·subst h0
   exact .inr (.inr ⟨k,off,e,h1,h2,Nat.lt_of_lt_of_le hl hk.size,fun j hj=>absurd hj (Nat.not_lt_zero _)⟩)
  ·rw [e] at e2
   cases e2
   exact .inr (.inr ⟨k,off,e,h1,h2,Nat.lt_of_lt_of_le hl hk.size,fun j hj=>(hk.cell hl hne).trans (hc j hj)⟩)
theorem els_kept {w w':World} {a:Option Addr} {n k b:Nat} {f:Nat→List Value} (h:Els w a n k f) (ha:AwL b a n) (hk:Kept b w w'):Els w' a n k f:=by
 rcases h with h | ⟨g,off,e,hl,hc⟩
 ·exact .inl h
 ·rcases ha with h0 | ⟨ad,e2,hne⟩
  ·exact .inl h0
  ·rw [e] at e2
   cases e2
   exact .inr ⟨g,off,e,Nat.lt_of_lt_of_le hl hk.size,fun i hi j u hj=>(hk.cell hl hne).trans (hc i hi j u hj)⟩
theorem nms_kept {w w':World} {a:Option Addr} {n b:Nat} {f:Nat→Int} (h:Z.Nms .u64 w a n f) (ha:AwL b a n) (hk:Kept b w w'):Z.Nms .u64 w' a n f:=by
 rcases h with h | ⟨g,off,e,hl,hc⟩
 ·exact .inl h
 ·rcases ha with h0 | ⟨ad,e2,hne⟩
  ·exact .inl h0
  ·rw [e] at e2
   cases e2
   exact .inr ⟨g,off,e,Nat.lt_of_lt_of_le hl hk.size,fun i hi=>(hk.cell hl hne).trans (hc i hi)⟩
theorem InW.kept {w w':World} {X:VState} {b:Nat} (h:InW w X) (ha:Aw b X) (hk:Kept b w w'):InW w' X:=⟨rts_kept h.i7 ha.q7 hk,els_kept h.i9 ha.q9 hk,els_kept h.i11 ha.q11 hk,nms_kept h.i12 ha.q12 hk,bys_kept h.i15 ha.q15 hk,bys_kept h.i16 ha.q16 hk,nms_kept h.i21 ha.q21 hk⟩
structure Res (B:Nat) (w:World) (Y X:VState):Prop where
 sim:SimF Y X
 inw:InW w X
 nil:NilW X
 new:Nw B X
theorem Res.below {B:Nat} {w w':World} {Y X:VState} (h:Res B w Y X) (hb:Below w.heap.size w w'):Res B w' Y X:=⟨h.sim,h.inw.below hb,h.nil,h.new⟩
theorem Res.to {B C:Nat} {w:World} {Y Z X:VState} (h:Res B w Y X) (hB:C≤B) (hs:SimF Z X):Res C w Z X:=⟨hs,h.inw,h.nil,h.new.mono hB⟩
theorem rsame_sim (a b : VState) (w : World) (ha : OkState a) (ia : InW w a) (ib : InW w b) (h : SimF a b) :
    Calls Tryz.prog 10 #[.agg (cel (sState a)),.agg (cel (sState b))] w fun e w'=>e=.returned (.bool true)∧Below w.heap.size w w' :=
 rsame_eq a b w ha (okF_sim h ha) ia ib (rE_sim h) (rS_sim h)
theorem nilO:NilW oState:=⟨fun _=>⟨rfl,rfl⟩,fun _=>⟨rfl,rfl⟩,fun _=>⟨rfl,rfl⟩,fun _=>⟨rfl,rfl⟩⟩
theorem inwO (w:World):InW w oState:=⟨.inl ⟨rfl,rfl,rfl⟩,.inl rfl,.inl rfl,.inl rfl,.inl ⟨rfl,rfl,rfl⟩,.inl ⟨rfl,rfl,rfl⟩,.inl rfl⟩
theorem nwO (B:Nat):Nw B oState:=⟨.inl rfl,.inl rfl,.inl rfl,.inl rfl,.inl rfl,.inl rfl,.inl rfl⟩
theorem resO (B:Nat) (w:World):Res B w oState oState:=⟨.refl _,inwO w,nilO,nwO B⟩
theorem own_nil {w:World} {B k:Nat} {t:TypeId} {a:Option Addr} {n c:Nat} {xs:List Value} (h:w.ownsRow B t k (.slice a n c) n xs) (ha:a=none):n=0∧c=0:=by
 rcases h.2 with ⟨hv,h0⟩ | ⟨g,cap,cur,hv,_⟩
 ·cases hv;exact ⟨h0,rfl⟩
 ·cases hv;cases ha
theorem CpdF.nil {B:Nat} {w:World} {X:VState} (h:CpdF B w X):NilW X:=⟨own_nil h.o9,own_nil h.o11,own_nil h.o12,own_nil h.o21⟩
theorem own_nw {w:World} {B k:Nat} {t:TypeId} {a:Option Addr} {n c:Nat} {xs:List Value} (h:w.ownsRow B t k (.slice a n c) n xs):NwL B a n:=by
 rcases own_range h with h0 | ⟨g,e,hB,_⟩
 ·exact .inl h0
 ·exact .inr ⟨_,e,hB⟩
theorem CpdF.nw {B:Nat} {w:World} {X:VState} (h:CpdF B w X):Nw B X:=⟨own_nw h.o7,own_nw h.o9,own_nw h.o11,own_nw h.o12,own_nw h.o15,own_nw h.o16,own_nw h.o21⟩
theorem BF.res {w V:World} {y:Nat} {Y:VState} (h:BF w y V Y):Res w.heap.size V Y Y:=⟨.refl _,h.inW,h.cpd.nil,h.cpd.nw⟩
theorem BF.cells {w V:World} {y:Nat} {Y Y':VState} (h:BF w y V Y) (hy:w.heap.size≤y) (o:Nat) (l:List Value) (he:putL (cel (sState Y)) o l=cel (sState Y')) (e7:Y'.f7=Y.f7) (e9:Y'.f9=Y.f9) (e11:Y'.f11=Y.f11) (e12:Y'.f12=Y.f12) (e15:Y'.f15=Y.f15) (e16:Y'.f16=Y.f16) (e21:Y'.f21=Y.f21):BF w y (V.setCells y o l) Y':=by
 have hk:Kept y V (V.setCells y o l):=setCells_kept l o (Kept.refl y V)
 refine ⟨h.bel.trans (hk.below hy h.bel.size),(setCells_row l o h.row).trans (congrArg (fun c=>some (Obj.cells c 49)) he),⟨?_,?_,?_,?_,?_,?_,?_,?_,?_⟩⟩
 ·rw [e7];exact own_keptB h.cpd.o7 hk (own_ne h.cpd.o7 h.row (by decide))
 ·rw [e9];exact own_keptB h.cpd.o9 hk (own_ne h.cpd.o9 h.row (by decide))
 ·rw [e11];exact own_keptB h.cpd.o11 hk (own_ne h.cpd.o11 h.row (by decide))
 ·rw [e12];exact own_keptB h.cpd.o12 hk (own_ne h.cpd.o12 h.row (by decide))
 ·rw [e15];exact own_keptB h.cpd.o15 hk (own_ne h.cpd.o15 h.row (by decide))
 ·rw [e16];exact own_keptB h.cpd.o16 hk (own_ne h.cpd.o16 h.row (by decide))
 ·rw [e21];exact own_keptB h.cpd.o21 hk (own_ne h.cpd.o21 h.row (by decide))
 ·rw [e15,e16];exact h.cpd.d15
 ·rw [e12,e21];exact h.cpd.d12
theorem flat_same {e e':Nat→List Value}:∀ n,(∀ i,i < n→e i=e' i)→flat e n=flat e' n
 | 0, _ => rfl
 | n + 1, h => by
  show flat e n++e n=flat e' n++e' n
  rw [flat_same n fun i hi=>h i (by omega),h n (by omega)]
def eqoE (x y:Value):Sem Value:=binOp .eql 34 x y
theorem eqoE_eq (x y:Value):binOp .eql 34 x y=eqoE x y:=rfl
end
section
open Go.RowKit
set_option linter.unusedVariables false
abbrev Up (W V:World):Prop:=Below W.heap.size W V
theorem upT {W V X:World} (h:Up W V) (k:Up V X):Up W X:=h.trans (k.mono h.size)
theorem upR {V X:World} {y:Nat} {o:Obj} (k:Up V X) (r:V.heap[y]?=some o):X.heap[y]?=some o:=(k.block _ (Array.getElem?_eq_some_iff.1 r).1).trans r
theorem upN2 {W V:World} (h:Up W V) (o:Obj):∃ X y,V.alloc o=X∧V.heap.size=y∧X.heap[y]?=some o∧Up V X∧W.heap.size≤y:=⟨_,_,rfl,rfl,heap_new rfl,(Below.refl _ _).alloc (Nat.le_refl _) _,h.size⟩
theorem sh1 {P:Program} {ops:Array Oper} {Q:Exit→Act→World→Prop} {md:Region.Mode} {S:World→Prop} {fuel fuel':Nat} {listed listed':Array Bool} {a:Act} {w:World} {α:Type} {act:α→Act} (F:α→World→Prop) (hm:Hid (∀ x V,F x V→wpAnyH P md ops Q S fuel' listed' (act x) V)→wpAnyH P md ops Q S fuel listed a w) (ht:∀ x V,F x V→wpAnyH P md ops Q S fuel' listed' (act x) V):wpAnyH P md ops Q S fuel listed a w:=hm ht
theorem sh2 {P:Program} {ops:Array Oper} {Q:Exit→Act→World→Prop} {md:Region.Mode} {S:World→Prop} {fuel fuel':Nat} {listed listed':Array Bool} {a:Act} {w:World} {α β:Type} {act:α→β→Act} (F:α→β→World→Prop) (hm:Hid (∀ x y V,F x y V→wpAnyH P md ops Q S fuel' listed' (act x y) V)→wpAnyH P md ops Q S fuel listed a w) (ht:∀ x y V,F x y V→wpAnyH P md ops Q S fuel' listed' (act x y) V):wpAnyH P md ops Q S fuel listed a w:=hm ht
theorem rd1 {P:Program} {ops:Array Oper} {Q:Exit→Act→World→Prop} {md:Region.Mode} {S:World→Prop} {fuel:Nat} {listed:Array Bool} {a:Act} {w:World} (i:Nat) {o:Oper} (h:∀ K':Act→World→Prop,Shut (∀ a w,S w→(S w→wpAnyH P md ops Q S fuel (listed.setIfInBounds i true) a w)→K' a w)→if Region.wanted o (yielded ops a.tmps)=true then Oper.wp P o a w K' Q else K' (a.put o.dst undef) w) (ho:ops[i]?=some o:=by rfl) (hr:Region.ready md ops listed=[i]:=by kernel_rfl):wpAnyH P md ops Q S (fuel+1) listed a w :=
 wpAnyH_ready hr (by simp) (AllReadyH.cons ho h AllReadyH.nil)
theorem rd2 {P:Program} {ops:Array Oper} {Q:Exit→Act→World→Prop} {md:Region.Mode} {S:World→Prop} {fuel:Nat} {listed:Array Bool} {a:Act} {w:World} (i j:Nat) {o p:Oper} (h:∀ K':Act→World→Prop,Shut (∀ a w,S w→(S w→wpAnyH P md ops Q S fuel (listed.setIfInBounds i true) a w)→K' a w)→if Region.wanted o (yielded ops a.tmps)=true then Oper.wp P o a w K' Q else K' (a.put o.dst undef) w) (h2:∀ K':Act→World→Prop,Shut (∀ a w,S w→(S w→wpAnyH P md ops Q S fuel (listed.setIfInBounds j true) a w)→K' a w)→if Region.wanted p (yielded ops a.tmps)=true then Oper.wp P p a w K' Q else K' (a.put p.dst undef) w) (ho:ops[i]?=some o:=by rfl) (hp:ops[j]?=some p:=by rfl) (hr:Region.ready md ops listed=[i,j]:=by kernel_rfl):wpAnyH P md ops Q S (fuel+1) listed a w :=
 wpAnyH_ready hr (by simp) (AllReadyH.cons ho h (AllReadyH.cons hp h2 AllReadyH.nil))
theorem rd3 {P:Program} {ops:Array Oper} {Q:Exit→Act→World→Prop} {md:Region.Mode} {S:World→Prop} {fuel:Nat} {listed:Array Bool} {a:Act} {w:World} (i j k:Nat) {o p q:Oper} (h:∀ K':Act→World→Prop,Shut (∀ a w,S w→(S w→wpAnyH P md ops Q S fuel (listed.setIfInBounds i true) a w)→K' a w)→if Region.wanted o (yielded ops a.tmps)=true then Oper.wp P o a w K' Q else K' (a.put o.dst undef) w) (h2:∀ K':Act→World→Prop,Shut (∀ a w,S w→(S w→wpAnyH P md ops Q S fuel (listed.setIfInBounds j true) a w)→K' a w)→if Region.wanted p (yielded ops a.tmps)=true then Oper.wp P p a w K' Q else K' (a.put p.dst undef) w) (h3:∀ K':Act→World→Prop,Shut (∀ a w,S w→(S w→wpAnyH P md ops Q S fuel (listed.setIfInBounds k true) a w)→K' a w)→if Region.wanted q (yielded ops a.tmps)=true then Oper.wp P q a w K' Q else K' (a.put q.dst undef) w) (ho:ops[i]?=some o:=by rfl) (hp:ops[j]?=some p:=by rfl) (hq:ops[k]?=some q:=by rfl) (hr:Region.ready md ops listed=[i,j,k]:=by kernel_rfl):wpAnyH P md ops Q S (fuel+1) listed a w :=
 wpAnyH_ready hr (by simp) (AllReadyH.cons ho h (AllReadyH.cons hp h2 (AllReadyH.cons hq h3 AllReadyH.nil)))
end
section
open Go.RowKit
set_option linter.unusedVariables false
set_option linter.unusedSimpArgs false
set_option maxRecDepth 20000
structure BK (w:World) (y:Nat) (V:World) (Y:VState):Prop where
 kep:Kept y w V
 row:V.heap[y]?=some (.cells (cel (sState Y)) 49)
 cpd:CpdF w.heap.size V Y
theorem BK.below {w V V':World} {y:Nat} {Y:VState} (h:BK w y V Y) (hb:Up V V'):BK w y V' Y:=⟨h.kep.trans (Kept.ofBelow hb),upR hb h.row,h.cpd.below hb⟩
theorem BK.drew {w V:World} {y:Nat} {Y:VState} (h:BK w y V Y):BK w y V.drew Y:=h.below ((Below.refl _ _).drew)
theorem BK.inW {w V:World} {y:Nat} {Y:VState} (h:BK w y V Y):InW V Y :=
 ⟨own_rtF h.cpd.o7,own_els h.cpd.o9 (fun i=>by rw [celL_len];rfl),own_els h.cpd.o11 (fun i=>by rw [celL_len];rfl),own_nms h.cpd.o12,own_byF h.cpd.o15,own_byF h.cpd.o16,own_nms h.cpd.o21⟩
theorem BK.old {w V:World} {y k:Nat} {Y:VState} {o:Obj} (h:BK w y V Y) (r:w.heap[k]?=some o) (hk:k≠y):V.heap[k]?=some o:=(h.kep.block k (Array.getElem?_eq_some_iff.1 r).1 hk).trans r
theorem BK.setY {w V:World} {y:Nat} {Y Y':VState} (h:BK w y V Y) (i:Nat) (v:Value) (he:(cel (sState Y)).setIfInBounds i v=cel (sState Y')) (e7:Y'.f7=Y.f7) (e9:Y'.f9=Y.f9) (e11:Y'.f11=Y.f11) (e12:Y'.f12=Y.f12) (e15:Y'.f15=Y.f15) (e16:Y'.f16=Y.f16) (e21:Y'.f21=Y.f21):BK w y (V.setCell ⟨y,i,none⟩ v) Y':=by
 have hk:Kept y V (V.setCell ⟨y,i,none⟩ v):=(Kept.refl y V).setCell _ _
 refine ⟨h.kep.trans hk,(row_set h.row i v).trans (congrArg (fun c=>some (Obj.cells c 49)) he),⟨?_,?_,?_,?_,?_,?_,?_,?_,?_⟩⟩
 ·rw [e7];exact own_keptB h.cpd.o7 hk (own_ne h.cpd.o7 h.row (by decide))
 ·rw [e9];exact own_keptB h.cpd.o9 hk (own_ne h.cpd.o9 h.row (by decide))
 ·rw [e11];exact own_keptB h.cpd.o11 hk (own_ne h.cpd.o11 h.row (by decide))
 ·rw [e12];exact own_keptB h.cpd.o12 hk (own_ne h.cpd.o12 h.row (by decide))
 ·rw [e15];exact own_keptB h.cpd.o15 hk (own_ne h.cpd.o15 h.row (by decide))
 ·rw [e16];exact own_keptB h.cpd.o16 hk (own_ne h.cpd.o16 h.row (by decide))
 ·rw [e21];exact own_keptB h.cpd.o21 hk (own_ne h.cpd.o21 h.row (by decide))
 ·rw [e15,e16];exact h.cpd.d15
 ·rw [e12,e21];exact h.cpd.d12
theorem kept_new {w V:World} {y g:Nat} (h:Kept y w V) (hg:w.heap.size≤g) (i:Nat) (v:Value):Kept y w (V.setCell ⟨g,i,none⟩ v):=by
 have hk:Kept g V (V.setCell ⟨g,i,none⟩ v):=(Kept.refl g V).setCell _ _
 exact ⟨hk.os.trans h.os,hk.tape.trans h.tape,hk.output.trans h.output,Nat.le_trans h.size hk.size,fun k hk1 hn=>(hk.block k (Nat.lt_of_lt_of_le hk1 h.size) (by omega)).trans (h.block k hk1 hn)⟩
theorem own_row {w:World} {B k g n cap:Nat} {t:TypeId} {xs:List Value} (h:w.ownsRow B t k (.slice (some ⟨g,0,none⟩) n cap) n xs):B≤g∧∃ C,w.heap[g]?=some (.cells C t):=by
 rcases h.2 with ⟨e,_⟩ | ⟨g',cap',cur,e,h1,h2,_⟩
 ·cases e
 ·cases e
  exact ⟨h1,cur,h2⟩
theorem own_some {w:World} {B k n cap:Nat} {t:TypeId} {a:Option Addr} {xs:List Value} (h:w.ownsRow B t k (.slice a n cap) n xs) (hn:0 < n):∃ g,a=some ⟨g,0,none⟩:=by
 rcases h.2 with ⟨e,h0⟩ | ⟨g',cap',cur,e,_⟩
 ·omega
 ·cases e
  exact ⟨g',rfl⟩
def valS (X:VState) (i:Nat) (f:VValidator→VValidator):VState:={ X with f11:=⟨X.f11.a,X.f11.n,X.f11.c,fun j=>if j=i then f (X.f11.z i) else X.f11.z j⟩ }
theorem BK.val {w V:World} {y i g p:Nat} {X:VState} (f:VValidator→VValidator) (u:Value) (hf:(celL (sValidator (X.f11.z i))).set p u=celL (sValidator (f (X.f11.z i)))) (hp:p < 86) (h:BK w y V X) (hg:X.f11.a=some ⟨g,0,none⟩) (hi:i < X.f11.n):BK w y (V.setCell ⟨g,86*i+p,none⟩ u) (valS X i f):=by
 have o11:=h.cpd.o11
 rw [hg] at o11
 obtain ⟨hB,C,hrg⟩:=own_row o11
 have hb:i*86+p < X.f11.n*86:=by
  have:i*86+86≤X.f11.n*86:=by
   rw [←Nat.succ_mul]
   exact Nat.mul_le_mul_right _ hi
  omega
 have h1:=ownSetC o11 (i*86+p) hb u
 rw [flat_set (fun j=>by rw [celL_len];rfl) X.f11.n i p hi hp,Nat.mul_comm i 86] at h1
 have e:(fun j=>if j=i then (celL (sValidator (X.f11.z i))).set p u else celL (sValidator (X.f11.z j)))=fun j=>celL (sValidator ((valS X i f).f11.z j)):=funext fun j=>by
  show _=celL (sValidator (if j=i then f (X.f11.z i) else X.f11.z j))
  by_cases hj:j=i
  ·rw [if_pos hj,if_pos hj,hf]
  ·rw [if_neg hj,if_neg hj]
 rw [e] at h1
 have hk:Kept g V (V.setCell ⟨g,86*i+p,none⟩ u):=(Kept.refl g V).setCell _ _
 have hne:y≠g:=fun e=>by
  subst e
  rw [h.row] at hrg
  injection hrg with q
  injection q with _ q2
  exact absurd q2 (by decide)
 refine ⟨kept_new h.kep hB _ _,(hk.block y (some_lt h.row) hne).trans h.row,⟨own_keptB h.cpd.o7 hk (own_ne h.cpd.o7 hrg (by decide)),own_keptB h.cpd.o9 hk (own_ne h.cpd.o9 hrg (by decide)),?_,own_keptB h.cpd.o12 hk (own_ne h.cpd.o12 hrg (by decide)),own_keptB h.cpd.o15 hk (own_ne h.cpd.o15 hrg (by decide)),own_keptB h.cpd.o16 hk (own_ne h.cpd.o16 hrg (by decide)),own_keptB h.cpd.o21 hk (own_ne h.cpd.o21 hrg (by decide)),h.cpd.d15,h.cpd.d12⟩⟩
 show World.ownsRow _ _ _ _ (.slice X.f11.a X.f11.n X.f11.c) _ _
 rw [hg]
 exact h1
def balS (X:VState) (i:Nat) (v:Int):VState:={ X with f12:=⟨X.f12.a,X.f12.n,X.f12.c,fun j=>if j=i then v else X.f12.z j⟩ }
theorem BK.bal {w V:World} {y i g:Nat} {X:VState} (v:Int) (h:BK w y V X) (hg:X.f12.a=some ⟨g,0,none⟩) (hi:i < X.f12.n):BK w y (V.setCell ⟨g,i,none⟩ (.int .u64 v)) (balS X i v):=by
 have o12:=h.cpd.o12
 rw [hg] at o12
 obtain ⟨hB,C,hrg⟩:=own_row o12
 have h1:=ownSetC o12 i (by omega) (.int .u64 v)
 rw [nl_set] at h1
 have hk:Kept g V (V.setCell ⟨g,i,none⟩ (.int .u64 v)):=(Kept.refl g V).setCell _ _
 have hne:y≠g:=fun e=>by
  subst e
  rw [h.row] at hrg
  injection hrg with q
  injection q with _ q2
  exact absurd q2 (by decide)
 have hd:(Value.slice X.f21.a X.f21.n X.f21.c).ownBlock≠some g:=fun e=>by
  cases ha:X.f21.a with
  | none => rw [ha] at e; cases e
  | some ad =>
   rw [ha] at e
   have:=h.cpd.d12 _ ad hg ha
   exact this (Option.some.inj e).symm
 refine ⟨kept_new h.kep hB _ _,(hk.block y (some_lt h.row) hne).trans h.row,⟨own_keptB h.cpd.o7 hk (own_ne h.cpd.o7 hrg (by decide)),own_keptB h.cpd.o9 hk (own_ne h.cpd.o9 hrg (by decide)),own_keptB h.cpd.o11 hk (own_ne h.cpd.o11 hrg (by decide)),?_,own_keptB h.cpd.o15 hk (own_ne h.cpd.o15 hrg (by decide)),own_keptB h.cpd.o16 hk (own_ne h.cpd.o16 hrg (by decide)),?_,h.cpd.d15,h.cpd.d12⟩⟩
 ·show World.ownsRow _ _ _ _ (.slice X.f12.a X.f12.n X.f12.c) _ _
  rw [hg]
  exact h1
 ·exact own_keptB h.cpd.o21 hk hd
theorem val_put6 (v:VValidator) (x:Int):(celL (sValidator v)).set 84 (.int .u64 x)=celL (sValidator { v with f6:=x }):=by
 show ((List.range 48).map (Seg.get (.by 48 v.f0))++((List.range 32).map (Seg.get (.by 32 v.f1))++(Value.int .u64 v.f2 :: Value.bool v.f3 :: Value.int .u64 v.f4 :: Value.int .u64 v.f5 :: Value.int .u64 v.f6 :: [Value.int .u64 v.f7]))).set 84 _=(List.range 48).map (Seg.get (.by 48 v.f0))++((List.range 32).map (Seg.get (.by 32 v.f1))++(Value.int .u64 v.f2 :: Value.bool v.f3 :: Value.int .u64 v.f4 :: Value.int .u64 v.f5 :: Value.int .u64 x :: [Value.int .u64 v.f7]))
 rw [List.set_append_right _ _ (by simp),List.set_append_right _ _ (by simp)]
 simp
theorem val_put7 (v:VValidator) (x:Int):(celL (sValidator v)).set 85 (.int .u64 x)=celL (sValidator { v with f7:=x }):=by
 show ((List.range 48).map (Seg.get (.by 48 v.f0))++((List.range 32).map (Seg.get (.by 32 v.f1))++(Value.int .u64 v.f2 :: Value.bool v.f3 :: Value.int .u64 v.f4 :: Value.int .u64 v.f5 :: Value.int .u64 v.f6 :: [Value.int .u64 v.f7]))).set 85 _=(List.range 48).map (Seg.get (.by 48 v.f0))++((List.range 32).map (Seg.get (.by 32 v.f1))++(Value.int .u64 v.f2 :: Value.bool v.f3 :: Value.int .u64 v.f4 :: Value.int .u64 v.f5 :: Value.int .u64 v.f6 :: [Value.int .u64 x]))
 rw [List.set_append_right _ _ (by simp),List.set_append_right _ _ (by simp)]
 simp
end
end Go.Proofs.YtfgmddnfhphdeaaGreatDoor
