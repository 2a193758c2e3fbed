/- A part. -/
import Derived.Test.YtdjplhibmomajaaGreatDoorQD
import Derived.Test.YtdjplhibmomajaaGreatDoorQF
import Derived.Test.YtdjplhibmomajaaGreatDoorStY
namespace Go.Proofs.YtdjplhibmomajaaGreatDoor
open Go.RowKit
set_option linter.unusedVariables false
set_option linter.unusedSimpArgs false
section
open Go.RowKit
set_option linter.unusedVariables false
set_option linter.unusedSimpArgs false
set_option maxRecDepth 20000
def aAn:aA1:=⟨0,fun _=>0,0,aTF,aF4,fun _=>0,fun _=>0,⟨none,0,0,fun _=>0⟩,aGO,⟨none,0,0,fun _=>aGO⟩,0,⟨none,0,0,fun _=>aBe⟩,⟨none,0,0,fun _=>0⟩,fun _=>0,fun _=>0,⟨none,0,0,fun _=>0⟩,⟨none,0,0,fun _=>0⟩,fun _=>false,aE0,aE0,aE0,⟨none,0,0,fun _=>0⟩,aFy,aFy⟩
theorem aBg (W:World):(zeroValue 49).run Tryz.prog W=.ok (.agg (cel (aA0 aAn))) W:=by kernel_rfl
theorem aCI (W:World):(aES #[]).run Tryz.prog W=.ok (.agg (cel (aA0 aAn))) W:=by kernel_rfl
def RI (w:World) (r y:Nat) (x:aA1) (X:World):Prop:=Below w.heap.size w X∧X.heap[r]?=some (.cells (cel (aA0 aAn)) 49)∧X.heap[y]?=some (.cells (cel (aA0 x)) 49)
theorem aB0 {X:World} {r:Nat} {o:Obj} (h:X.heap[r]?=some o):r < X.heap.size:=(Array.getElem?_eq_some_iff.1 h).1
theorem aBy {X:World} {y i:Nat} {x:aA1} (h:X.heap[y]?=some (.cells (cel (aA0 x)) 49)) (hi:i < 1957):∃ v,X.cell? ⟨y,i,none⟩=some v:=⟨_,(aAs h i).trans (Array.getElem?_eq_getElem (by rw [aAT,aCQ];exact hi))⟩
theorem RI.below {w X X':World} {r y:Nat} {x:aA1} (h:RI w r y x X) (hb:Below X.heap.size X X'):RI w r y x X' :=
 ⟨h.1.trans (hb.mono h.1.size),(hb.block r (aB0 h.2.1)).trans h.2.1,(hb.block y (aB0 h.2.2)).trans h.2.2⟩
theorem RI.kept {w X X':World} {r y:Nat} {x x':aA1} (h:RI w r y x X) (hr:r≠y) (hy:w.heap.size≤y) (hk:Kept y X X') (hn:X'.heap[y]?=some (.cells (cel (aA0 x')) 49)):RI w r y x' X' :=
 ⟨h.1.trans (hk.below hy h.1.size),(hk.block r (aB0 h.2.1) hr).trans h.2.1,hn⟩
theorem RI.set {w X:World} {r y:Nat} {x x':aA1} (h:RI w r y x X) (hr:r≠y) (hy:w.heap.size≤y) (i:Nat) (v:Value) (he:(cel (aA0 x)).setIfInBounds i v=cel (aA0 x')):RI w r y x' (X.setCell ⟨y,i,none⟩ v) :=
 h.kept hr hy ((Kept.refl y X).setCell i v) ((aAI h.2.2 i v).trans (congrArg (fun c=>some (Obj.cells c 49)) he))
theorem RI.row {w X:World} {r y:Nat} {x x':aA1} (h:RI w r y x X) (hr:r≠y) (hy:w.heap.size≤y):RI w r y x' (X.setRow y (cel (aA0 x'))) :=
 h.kept hr hy ((Kept.refl y X).setRow _) (aA4 h.2.2)
attribute [local go_sem ↓] aAq aAr aAz aCU
end
section
open Go.RowKit
set_option linter.unusedVariables false
set_option linter.unusedSimpArgs false
set_option maxRecDepth 20000
theorem aPQ (C:Array Value) (o:Nat) (l:List Value) (h:o+l.length≤C.size):aL5 C o l=(C.toList.take o++l++C.toList.drop (o+l.length)).toArray:=by
 apply Array.ext'
 apply List.ext_getElem?
 intro i
 have hc:C.toList.length=C.size:=Array.length_toList
 rw [Array.getElem?_toList,aDd _ _ _ _ h]
 by_cases h1:i < o
 ·rw [if_neg (by omega),List.append_assoc,List.getElem?_append_left (by rw [List.length_take];omega),List.getElem?_take_of_lt h1,Array.getElem?_toList]
 ·rw [List.append_assoc,List.getElem?_append_right (by rw [List.length_take];omega),List.length_take,Nat.min_eq_left (by omega)]
  by_cases h2:i < o+l.length
  ·rw [if_pos ⟨by omega,h2⟩,List.getElem?_append_left (by omega)]
  ·rw [if_neg (by omega),List.getElem?_append_right (by omega),List.getElem?_drop,show o+l.length+(i - o - l.length)=i by omega,Array.getElem?_toList]
theorem RI.put {w X:World} {r y:Nat} {x x':aA1} (h:RI w r y x X) (hr:r≠y) (hy:w.heap.size≤y) (l1 m m' l2:List Seg) (e1:aA0 x=l1++m++l2) (e2:aA0 x'=l1++m'++l2) (hm:aCa m'=aCa m) (o:Nat) (ho:aCa l1=o):RI w r y x' (X.setCells y o (aAW m')):=by
 refine h.kept hr hy (aBk _ _ (Kept.refl y X)) ((aCz _ _ h.2.2).trans (congrArg (fun c=>some (Obj.cells c 49)) ?_))
 have hs:aCa (l1++m++l2)=aCa l1+aCa m+aCa l2:=by
  rw [←aAC,aBL,aBL,List.length_append,List.length_append,aAC,aAC,aAC]
 rw [e1,e2,aPQ _ _ _ (by rw [aAT,aAC,hm,hs];omega),aAC,hm,←ho,aP5]
attribute [local go_sem ↓] aAq aAr aAz aCU aD8 aC2 aCR aBo aDU
end
section
open Go.RowKit
set_option linter.unusedVariables false
set_option linter.unusedSimpArgs false
set_option maxRecDepth 20000
def Src (w:World) (k:Nat) (a:Option Addr) (n c:Nat) (news:List Value):Prop :=
 (a=none→n=0∧c=0)∧news.length=n*k∧(∀ u ∈ news,u.oneCell'=true)∧(n=0∨∃ b off,a=some ⟨b,off,none⟩∧b < w.heap.size∧w.rangeAt b off news)
theorem Src.below {w w':World} {k:Nat} {a:Option Addr} {n c:Nat} {news:List Value} (h:Src w k a n c news) (hb:Below w.heap.size w w'):Src w' k a n c news:=by
 refine ⟨h.1,h.2.1,h.2.2.1,?_⟩
 rcases h.2.2.2 with h0 | ⟨b,off,e,hl,hr⟩
 ·exact .inl h0
 ·exact .inr ⟨b,off,e,Nat.lt_of_lt_of_le hl hb.size,aDe hr hl hb⟩
theorem aCg {P : Program} (w : World) {ops : Array Oper} {rest : List Oper} {o : Oper} {a : Act} {Q : Exit → Act → World → Prop} (hgd : o.guard = none) (s x : Operand) (t : TypeId)
    (ho:o.op=.call { callee:=.builtin .append,args:=#[s,x],argTypes:=#[t,t] })
    (base:Nat) (e:TypeId) (i:TypeInfo) (z:Value) (size bytes:Nat) (ht:P.underlying t=some (.slice e)) (hi:P.info? e=some i) (hz:i.zero=some z)
    (hsize:i.size=size) (hby:i.bytes=bytes) (hzs:z.cells.size=size) (hsz:0 < size)
    (v:Value) (n:Nat) (xs:List Value) (hs:a.eval s=v) (hown:w.ownsRow base e size v n xs)
    (ao:Option Addr) (len cap:Nat) (news:List Value) (hx:a.eval x=.slice ao len cap) (hsrc:Src w size ao len cap news)
    (h63:n+len≤maxLen) (hbytes:(n+len)*bytes≤140737488355328) (hbase:base≤w.heap.size)
    (h:∀ v' w',w'.ownsRow base e size v' (n+len) (xs++news)→w.grownBy w' v.ownBlock→wpList P ops Q rest (a.put o.dst v') w'):wpList P ops Q (o :: rest) a w:=by
 obtain ⟨h1,h2,h3,h4⟩:=hsrc
 cases ao with
 | none =>
  obtain ⟨rfl,rfl⟩:=h1 rfl
  obtain rfl:news=[]:=List.length_eq_zero_iff.1 (by rw [h2,Nat.zero_mul])
  refine wpList_append_own_none hgd s x t ho base e i size ht hi v n xs hs hown hx (h v w ?_ ⟨rfl,rfl,rfl,Nat.le_refl _,fun _ _ _=>rfl⟩)
  rw [Nat.add_zero,List.append_nil]
  exact hown
 | some ad =>
  refine wpList_append_own w hgd s x t ho base e i z size bytes ht hi hz hsize hby hzs hsz v n xs hs hown ad len cap news hx h2 (fun j u hj=>?_) h3 h63 hbytes hbase (fun v' w' g1 g2 _=>h v' w' g1 g2)
  rcases h4 with rfl | ⟨b,off,e',_,hr⟩
  ·have:=(List.getElem?_eq_some_iff.1 hj).1
   rw [h2,Nat.zero_mul] at this
   omega
  ·cases e'
   rw [addr_add]
   exact hr j u hj
theorem aCJ {B s:Nat} {w w':World} {v:Value} {n:Nat} {xs:List Value} {e:TypeId} (hb:Below B w w) (ho:(w.alloc (.cells #[] e)).ownsRow w.heap.size e s v n xs) (hg:(w.alloc (.cells #[] e)).grownBy w' v.ownBlock):Below w.heap.size w w' :=
 ⟨hg.os,hg.tape,hg.output,Nat.le_trans (by simp) hg.size,fun k hk=>(hg.block k (by simp;omega) (fun e=>by have:=(ho.lt k e.symm).1;omega)).trans (aAc hk)⟩
theorem aBb {w:World} {B:Nat} {e:TypeId} {k:Nat} {v:Value} {n:Nat} {xs:List Value} (h:w.ownsRow B e k v n xs):∃ a c,v=.slice a n c:=by
 rcases h.2 with ⟨rfl,rfl⟩ | ⟨g,cap,cur,rfl,_⟩
 ·exact ⟨none,0,rfl⟩
 ·exact ⟨_,cap,rfl⟩
def flat (e:Nat→List Value):Nat→List Value
 | 0 => []
 | n + 1 => flat e n ++ e n
theorem aCG {e:Nat→List Value} {k:Nat} (h:∀ i,(e i).length=k):∀ n,(flat e n).length=n*k
 | 0 => by simp [flat]
 | n + 1 => by
  show (flat e n++e n).length=_
  rw [List.length_append,aCG h n,h n,Nat.succ_mul]
theorem aEX {e:Nat→List Value} {k:Nat} (h:∀ i,(e i).length=k) (i j:Nat) (hj:j < k):∀ n,i < n→(flat e n)[i*k+j]?=(e i)[j]?
 | 0, hi => absurd hi (Nat.not_lt_zero _)
 | n + 1, hi => by
  show (flat e n++e n)[i*k+j]?=_
  by_cases hn:i < n
  ·rw [List.getElem?_append_left (by rw [aCG h n];have:(i+1)*k≤n*k:=Nat.mul_le_mul_right k hn;rw [Nat.succ_mul] at this;omega),aEX h i j hj n hn]
  ·obtain rfl:i=n:=by omega
   rw [List.getElem?_append_right (by rw [aCG h];omega),aCG h,Nat.add_sub_cancel_left]
theorem aIi {e:Nat→List Value} (h:∀ i,∀ u ∈ e i,u.oneCell'=true):∀ n,∀ u ∈ flat e n,u.oneCell'=true
 | 0, u, hu => by cases hu
 | n + 1, u, hu => by
  rcases List.mem_append.1 (show u ∈ flat e n++e n from hu) with h1 | h1
  ·exact aIi h n u h1
  ·exact h n u h1
def nl (z:Nat→Int) (n:Nat):List Value:=(List.range n).map fun i=>Value.int .u64 (z i)
theorem aOt (z:Nat→Int) (n:Nat):(nl z n).length=n:=by simp [nl]
theorem aRX (z:Nat→Int) (n j:Nat) (hj:j < n):(nl z n)[j]?=some (.int .u64 (z j)):=by simp [nl,List.getElem?_range hj]
theorem aRY (z:Nat→Int) (n j:Nat) (u:Value) (h:(nl z n)[j]?=some u):j < n∧u=.int .u64 (z j):=by
 have hj:j < n:=by have:=(List.getElem?_eq_some_iff.1 h).1;rwa [aOt] at this
 rw [aRX z n j hj] at h
 exact ⟨hj,(Option.some.inj h).symm⟩
theorem aRZ (z:Nat→Int) (n:Nat):∀ u ∈ nl z n,u.oneCell'=true:=fun u hu=>by
 obtain ⟨i,_,rfl⟩:=List.mem_map.1 hu
 rfl
theorem aGn {w:World} {a:Option Addr} {n c:Nat} {f:Nat→Int} (h:Rts w a n c f):Src w 32 a n c (bl f (32*n)):=by
 refine ⟨fun ha=>?_,by rw [aAV,Nat.mul_comm],aC0 _ _,?_⟩
 ·rcases h with ⟨_,h1,h2⟩ | ⟨_,h1,_⟩ | ⟨_,_,h1,_⟩
  ·exact ⟨h1,h2⟩
  ·rw [ha] at h1
   cases h1
  ·rw [ha] at h1
   cases h1
 ·rcases h with ⟨_,h1,_⟩ | ⟨_,_,h1⟩ | ⟨b,off,h1,_,h2,h3⟩
  ·exact .inl h1
  ·exact .inl h1
  ·exact .inr ⟨b,off,h1,h2,fun j u hj=>by
    obtain ⟨k1,rfl⟩:=aBD f (32*n) j u hj
    exact h3 j k1⟩
theorem aGk {w:World} {a:Option Addr} {n c:Nat} {f:Nat→Int} (h:Bys w a n c f):Src w 1 a n c (bl f n):=by
 refine ⟨fun ha=>?_,by rw [aAV,Nat.mul_one],aC0 _ _,?_⟩
 ·rcases h with ⟨_,h1,h2⟩ | ⟨_,h1,_⟩ | ⟨_,_,h1,_⟩
  ·exact ⟨h1,h2⟩
  ·rw [ha] at h1
   cases h1
  ·rw [ha] at h1
   cases h1
 ·rcases h with ⟨_,h1,_⟩ | ⟨_,_,h1⟩ | ⟨b,off,h1,_,_,h2,h3⟩
  ·exact .inl h1
  ·exact .inl h1
  ·exact .inr ⟨b,off,h1,h2,fun j u hj=>by
    obtain ⟨k1,rfl⟩:=aBD f n j u hj
    exact h3 j k1⟩
theorem aGm {w:World} {a:Option Addr} {n c:Nat} {f:Nat→Int} (h:Z.Nms .u64 w a n f) (hn:a=none→n=0∧c=0):Src w 1 a n c (nl f n):=by
 refine ⟨hn,by rw [aOt,Nat.mul_one],aRZ _ _,?_⟩
 rcases h with h1 | ⟨b,off,h1,h2,h3⟩
 ·exact .inl h1
 ·exact .inr ⟨b,off,h1,h2,fun j u hj=>by
   obtain ⟨k1,rfl⟩:=aRY f n j u hj
   exact h3 j k1⟩
theorem aGl {w:World} {a:Option Addr} {n c k:Nat} {e:Nat→List Value} (h:Els w a n k e) (hn:a=none→n=0∧c=0) (hk:∀ i,(e i).length=k) (h1:∀ i,∀ u ∈ e i,u.oneCell'=true):Src w k a n c (flat e n):=by
 refine ⟨hn,aCG hk n,aIi h1 n,?_⟩
 rcases h with h0 | ⟨b,off,e1,h2,h3⟩
 ·exact .inl h0
 ·refine .inr ⟨b,off,e1,h2,fun j u hj=>?_⟩
  have hlt:j < n*k:=by have:=(List.getElem?_eq_some_iff.1 hj).1;rwa [aCG hk] at this
  have hkp:0 < k:=by
   rcases Nat.eq_zero_or_pos k with h0 | h0
   ·rw [h0,Nat.mul_zero] at hlt
    omega
   ·exact h0
  have hi:j / k < n:=Nat.div_lt_of_lt_mul (by rw [Nat.mul_comm];exact hlt)
  have hm:=Nat.mod_lt j hkp
  have ej:j=j / k*k+j % k:=by rw [Nat.mul_comm];exact (Nat.div_add_mod j k).symm
  rw [ej,aEX hk _ _ hm n hi] at hj
  have:=h3 (j / k) hi (j % k) u hj
  rw [show off+k*(j / k)+j % k=off+j by rw [Nat.add_assoc,Nat.div_add_mod]] at this
  exact this
theorem aF6 {w:World} {B:Nat} {e:TypeId} {k:Nat} {a:Option Addr} {n c:Nat} {xs:List Value} (h:w.ownsRow B e k (.slice a n c) n xs):n=0∨∃ g,a=some ⟨g,0,none⟩∧B≤g∧g < w.heap.size∧w.rangeAt g 0 xs:=by
 rcases h.2 with ⟨_,h0⟩ | ⟨g,cap,cur,hv,hB,hg,_,_,hs,ht⟩
 ·exact .inl h0
 ·cases hv
  refine .inr ⟨g,rfl,hB,aB0 hg,fun j u hj=>?_⟩
  rw [Nat.zero_add,aAs hg,←hj,←ht]
  have hlt:=(List.getElem?_eq_some_iff.1 hj).1
  rw [h.1] at hlt
  rw [List.getElem?_take_of_lt hlt,Array.getElem?_toList]
theorem aCZ {w:World} {B:Nat} {a:Option Addr} {n c:Nat} {z:Nat→Int} (h:w.ownsRow B 22 1 (.slice a n c) n (nl z n)):Z.Nms .u64 w a n z:=by
 rcases aF6 h with h0 | ⟨g,e,_,hg,hr⟩
 ·exact .inl h0
 ·exact .inr ⟨g,0,e,hg,fun j hj=>hr j _ (aRX z n j hj)⟩
theorem aCY {w:World} {B k:Nat} {t:TypeId} {a:Option Addr} {n c:Nat} {e:Nat→List Value} (h:w.ownsRow B t k (.slice a n c) n (flat e n)) (hk:∀ i,(e i).length=k):Els w a n k e:=by
 rcases aF6 h with h0 | ⟨g,e1,_,hg,hr⟩
 ·exact .inl h0
 ·refine .inr ⟨g,0,e1,hg,fun i hi j u hj=>?_⟩
  have hlt:j < k:=by have:=(List.getElem?_eq_some_iff.1 hj).1;rwa [hk i] at this
  have:=hr (i*k+j) u (by rw [aEX hk i j hlt n hi];exact hj)
  rw [Nat.mul_comm i k] at this
  rw [Nat.zero_add] at this ⊢
  exact this
theorem aAB {w w':World} {B k y:Nat} {t:TypeId} {v:Value} {n:Nat} {xs:List Value} (h:w.ownsRow B t k v n xs) (hk:Kept y w w') (hy:y < B):w'.ownsRow B t k v n xs:=by
 refine ⟨h.1,?_⟩
 rcases h.2 with h1 | ⟨g,cap,cur,h1,h2,h3,h4⟩
 ·exact .inl h1
 ·exact .inr ⟨g,cap,cur,h1,h2,(hk.block g (aB0 h3) (by omega)).trans h3,h4⟩
structure aGw (x:aA1):Prop where
 n9:x.f9.a=none→x.f9.n=0∧x.f9.c=0
 n11:x.f11.a=none→x.f11.n=0∧x.f11.c=0
 n12:x.f12.a=none→x.f12.n=0∧x.f12.c=0
 n21:x.f21.a=none→x.f21.n=0∧x.f21.c=0
attribute [local go_sem ↓] aAq aAr
theorem aGZ {fn : Func} {R : Ending → World → Prop} {a : Act} {w' : World} (t : Tmp) (b : Nat) (c : aA1) (ty : TypeId) (h : fn.results = #[.cell t 49]) (hd : a.defers = []) (ht : a.tmps.getD t undef = .pointer (some ⟨b, 0, none⟩)) (hr : w'.heap[b]? = some (.cells (cel (aA0 c)) ty))
    (hR:R (.returned (.agg (cel (aA0 c)))) w'):bodyPost Tryz.prog fn R .ret a w' :=
 bodyPost_ret (aBI h a.tmps _ b _ ht (aBh hr 49 _ Tryz.underlying49 rfl (by rw [aAT,aCQ];kernel_rfl))) hd hR
end
section
open Go.RowKit
set_option linter.unusedVariables false
set_option linter.unusedSimpArgs false
set_option maxRecDepth 20000
attribute [local go_sem ↓] aAq aAr aAz aAi aAl aAw
def acS (x:aA1):List Int:=acL x.f11.z (x.f2 / 4) x.f11.n
def aJL (x:aA1):Int:=if ((acS x).length:Int) / 32 < 2 then 2 else ((acS x).length:Int) / 32
set_option maxHeartbeats 2000000 in
theorem aJn (x : aA1) (w : World) (hx : Lk w x) :
    Calls Tryz.prog 94 #[.agg (cel (aA0 x))] w fun e' w'=>e'=.returned (.int .u64 (aJL x))∧Below w.heap.size w w':=by
 obtain ⟨W0,hW0⟩:∃ W,w.alloc (.cells (cel (aA0 x)) 49)=W:=⟨_,rfl⟩
 have r0:W0.heap[w.heap.size]?=some (.cells (cel (aA0 x)) 49):=by rw [←hW0];exact aA2 rfl
 have hB0:Below w.heap.size w W0:=by rw [←hW0];exact (Below.refl _ _).alloc (Nat.le_refl _) _
 have z0:w.heap.size < W0.heap.size:=(Array.getElem?_eq_some_iff.1 r0).1
 have hld:∀ W:World,Below W0.heap.size W0 W→(aCc ⟨w.heap.size,0,none⟩).run Tryz.prog W=.ok (.agg (cel (aA0 x))) W:=fun W h=>aAg ((h.block _ z0).trans r0)
 have hx0:=hx.below hB0
 have hep:=fun W:World=>aD6 x W hx.sl.1 hx.sl.2
 have hac:∀ W:World,Below W0.heap.size W0 W→Calls Tryz.prog 98 #[.agg (cel (aA0 x)),.int .u64 (x.f2 / 4)] W fun e' w'=>∃ a c,e'=.returned (.slice a (acS x).length c)∧Nml w' a (acS x)∧Below W.heap.size W w':=fun W h=>aGX x (x.f2 / 4) W (hx0.below h)
 have hch:aJL x=if ((acS x).length:Int) / 32 < 2 then 2 else ((acS x).length:Int) / 32:=rfl
 have hlen:(acS x).length≤65536:=Nat.le_trans (aEQ _ _ _) hx.nb
 generalize aJL x=R at *
 generalize x.f2 / 4=E at *
 generalize (acS x)=L at *
 obtain ⟨n,hn⟩:∃ n,L.length=n:=⟨_,rfl⟩
 rw [hn] at hac hch hlen
 have nw:IntKind.u64.wrap (n:Int)=(n:Int):=by rw [IntKind.wrap_u64];omega
 have n0:(0:Int)≤(n:Int):=by omega
 have n1:(n:Int)≤65536:=by omega
 have n2:IntKind.u64.wrap ((n:Int) / 32)=(n:Int) / 32:=by rw [IntKind.wrap_u64];omega
 have hdr:Below W0.heap.size W0 W0.drew:=(Below.refl _ _).drew
 have HDR:=hid hdr
 have HB:=hid hB0
 have HW:=hid hW0
 have HLD:=hid hld
 have HEP:=hid hep
 have HAC:=hid hac
 have HCH:=hid hch
 clear hdr hB0 hW0 hld hep hac hx hx0 r0 hch hn
 go_enter Tryz.func94,Tryz.ntmps94
 go_upto_region 1 with fail
 rw [HW.out]
 clear HW
 refine wp_region_noPanic ?_
 refine wp_region_held_drew (S:=fun W=>Below W0.heap.size W0 W) (by kernel_rfl) (HDR.out) (fun hHeld=>?_)
 refine tk 0 (v:=?v5) ?y5 hHeld ?r5
 case y5=>intro w hSw;have ld:=HLD.out _ hSw;go_simp;try with_reducible rfl
 refine tk 1 (v:=?v6) ?y6 hHeld ?r6
 case y6=>intro w hSw;have ld:=HLD.out _ hSw;go_simp;try with_reducible rfl
 try simp only [Act.put,z_1,z_2,z_3,z_4,z_5,z_6,z_7]
 refine wpAnyH_ready (rs:=[2]) (by kernel_rfl) (by simp) ?_
 refine AllReadyH.cons rfl (fun K hK=>?_) AllReadyH.nil
 go_simp
 refine (HEP.out _).mono ?_
 rintro e' w1 ⟨rfl,hb1⟩
 dsimp only
 have hB1:Below W0.heap.size W0 w1:=HDR.out.trans hb1
 refine hK.out _ _ (hB1) (fun hHeld=>?_)
 clear hK K
 try simp only [Act.put,z_1,z_2,z_3,z_4,z_5,z_6,z_7]
 refine wpAnyH_ready (rs:=[3]) (by kernel_rfl) (by simp) ?_
 refine AllReadyH.cons rfl (fun K hK=>?_) AllReadyH.nil
 go_simp
 refine (HAC.out _ hB1).mono ?_
 rintro e' w2 ⟨a2,c2,rfl,hn2,hb2⟩
 dsimp only
 have hB2:Below W0.heap.size W0 w2:=hB1.trans (hb2.mono hB1.size)
 refine hK.out _ _ (hB2) (fun hHeld=>?_)
 clear hK K
 try simp only [Act.put,z_1,z_2,z_3,z_4,z_5,z_6,z_7]
 refine tk 4 (v:=?v7) ?y7 hHeld ?r7
 case y7=>intro w hSw;go_simp;try with_reducible rfl
 refine tk 5 (v:=?v8) ?y8 hHeld ?r8
 case y8=>intro w hSw;go_simp;try with_reducible rfl
 refine tk 6 (v:=?v9) ?y9 hHeld ?r9
 case y9=>intro w hSw;go_simp;try with_reducible rfl
 refine tk 7 (v:=?v10) ?y10 hHeld ?r10
 case y10=>intro w hSw;go_simp;try with_reducible rfl
 try simp only [Act.put,z_1,z_2,z_3,z_4,z_5,z_6,z_7]
 refine wpAnyH_done (by kernel_rfl) ?_ _
 refine NoPanic.normal ?_
 by_cases h2:(n:Int) / 32 < 2
 ·go_wp2
  go_ret
  exact ⟨aB9 (by rw [HCH.out,if_pos h2]),HB.out.trans (hB2.mono (by omega))⟩
 ·go_wp2
  go_ret
  exact ⟨aB9 (by rw [HCH.out,if_neg (by omega)]),HB.out.trans (hB2.mono (by omega))⟩
end
section
open Go.RowKit
set_option linter.unusedVariables false
set_option linter.unusedSimpArgs false
set_option maxRecDepth 20000
attribute [local go_sem ↓] aAq aAr aAz aAi aAl aAw
theorem RtO.lk {x:aA1} (h:RtO x) {w:World} (hx:aAD x) (hw:InW w x):Lk w x:=by
 refine ⟨hw.i11,h.c0,fun j hj=>?_,hx.o2.1,h.c7⟩
 have hv:=h.cv j hj
 have ho:=(hx.o11 j hj).2.2.1
 unfold aFl at hv
 simp only [Bool.and_eq_true,decide_eq_true_eq] at hv
 exact ⟨ho.1,hv.2.1⟩
theorem aDy {w:World} {b:Nat} {x:aA5} {t:TypeId} (h:w.heap[b]?=some (.cells (cel (aA3 x)) t)):(aDc ⟨b,0,none⟩).run Tryz.prog w=.ok (.agg (cel (aA3 x))) w :=
 aAP (aBh h 65 _ Tryz.underlying65 rfl (by rw [aAT,aDg];kernel_rfl))
theorem aAD.r' {x:aA1} (h:aAD x):OkR x:=⟨h.o2,h.o11,h.o12,h.o14,h.o21⟩
theorem InW.r' {w:World} {x:aA1} (h:InW w x):InR w x:=⟨h.i11,h.i12,h.i21⟩
end
section
open Go.RowKit
set_option linter.unusedVariables false
set_option linter.unusedSimpArgs false
set_option maxRecDepth 100000
def bvV (ps:Array (Nat × Value)):Sem Value:=Instr.build 65 ps
theorem aK2 (ps:Array (Nat × Value)):Instr.build 65 ps=bvV ps:=rfl
def bsV (n:Nat) (ps:Array (Nat × Value)):Sem Value:=Instr.buildSlice 36 n ps
theorem aK1 (n:Nat) (ps:Array (Nat × Value)):Instr.buildSlice 36 n ps=bsV n ps:=rfl
def oV1:aA5:=⟨fun _=>0,fun _=>0,32000000000,false,0,0,9,0⟩
def X0 (g1 g2 g3 g4 g5:Nat):aA1:={ aAn with f11:=⟨some ⟨g1,0,none⟩,1,1,fun _=>oV1⟩,f12:=⟨some ⟨g2,0,none⟩,1,1,fun _=>0⟩,f15:=⟨some ⟨g3,0,none⟩,1,1,fun _=>0⟩,f16:=⟨some ⟨g4,0,none⟩,1,1,fun _=>0⟩,f21:=⟨some ⟨g5,0,none⟩,1,1,fun _=>0⟩ }
end
section
open Go.RowKit
set_option linter.unusedVariables false
set_option linter.unusedSimpArgs false
set_option maxRecDepth 20000
attribute [local go_sem ↓] aAq aAr aAz aAi aAl aAw
set_option maxHeartbeats 1000000 in
theorem aJ3 (v : aA5) (e : Int) (w : World) :
    Calls Tryz.prog 133 #[.agg (cel (aA3 v)),.int .u64 e] w fun e' w'=>e'=.returned (.bool (aEz v e))∧Below w.heap.size w w':=by
 obtain ⟨W0,hW0⟩:∃ W,w.alloc (.cells (cel (aA3 v)) 65)=W:=⟨_,rfl⟩
 have r0:W0.heap[w.heap.size]?=some (.cells (cel (aA3 v)) 65):=by rw [←hW0];exact aA2 rfl
 have hB0:Below w.heap.size w W0:=by rw [←hW0];exact (Below.refl _ _).alloc (Nat.le_refl _) _
 have l5:=aAH r0 5 v.f5 rfl 83 rfl
 have l6:=aAH r0 6 v.f6 rfl 84 rfl
 have hE:aEz v e=(decide (v.f5≤e) && decide (e < v.f6)):=rfl
 generalize v.f5=p at *
 generalize v.f6=q at *
 have HB:=hid hB0
 have HW:=hid hW0
 have HE:=hid hE
 clear hB0 hW0 r0 hE
 by_cases h:p≤e
 ·have d1:decide (p≤e)=true:=by simp [h]
  go_enter Tryz.func133,Tryz.ntmps133
  go_upto_region 1 with fail
  rw [HW.out]
  clear HW
  go_wp2
  go_ret
  exact ⟨aBX (by rw [HE.out,d1,Bool.true_and]),HB.out⟩
 ·have d1:decide (p≤e)=false:=by simp [h]
  go_enter Tryz.func133,Tryz.ntmps133
  go_upto_region 1 with fail
  rw [HW.out]
  clear HW
  go_wp2
  go_ret
  exact ⟨aBX (by rw [HE.out,d1,Bool.false_and]),HB.out⟩
set_option maxHeartbeats 1000000 in
theorem aLz (v : aA5) (e : Int) (w : World) :
    Calls Tryz.prog 15 #[.agg (cel (aA3 v)),.int .u64 e] w fun e' w'=>e'=.returned (.bool (aMn v e))∧Below w.heap.size w w':=by
 obtain ⟨W0,hW0⟩:∃ W,w.alloc (.cells (cel (aA3 v)) 65)=W:=⟨_,rfl⟩
 have r0:W0.heap[w.heap.size]?=some (.cells (cel (aA3 v)) 65):=by rw [←hW0];exact aA2 rfl
 have hB0:Below w.heap.size w W0:=by rw [←hW0];exact (Below.refl _ _).alloc (Nat.le_refl _) _
 have l3:=aEF r0 3 v.f3 rfl 81 rfl
 have l5:=aAH r0 5 v.f5 rfl 83 rfl
 have l7:=aAH r0 7 v.f7 rfl 85 rfl
 have hE:aMn v e=(!v.f3 && (decide (v.f5≤e) && decide (e < v.f7))):=rfl
 generalize v.f3=s at *
 generalize v.f5=p at *
 generalize v.f7=q at *
 have HB:=hid hB0
 have HW:=hid hW0
 have HE:=hid hE
 clear hB0 hW0 r0 hE
 cases s
 ·by_cases h:p≤e
  ·have d1:decide (p≤e)=true:=by simp [h]
   go_enter Tryz.func15,Tryz.ntmps15
   go_upto_region 1 with fail
   rw [HW.out]
   clear HW
   go_wp2
   go_ret
   exact ⟨aBX (by rw [HE.out,d1];rfl),HB.out⟩
  ·have d1:decide (p≤e)=false:=by simp [h]
   go_enter Tryz.func15,Tryz.ntmps15
   go_upto_region 1 with fail
   rw [HW.out]
   clear HW
   go_wp2
   go_ret
   exact ⟨aBX (by rw [HE.out,d1];rfl),HB.out⟩
 ·go_enter Tryz.func15,Tryz.ntmps15
  go_upto_region 1 with fail
  rw [HW.out]
  clear HW
  go_wp2
  go_ret
  exact ⟨aBX (by rw [HE.out];rfl),HB.out⟩
set_option maxHeartbeats 2000000 in
theorem aER (x : aA1) (e : Int) (w : World) (hx : Lk w x) :
    Calls Tryz.prog 114 #[.agg (cel (aA0 x)),.int .u64 e] w fun e' w'=>∃ a c,e'=.returned (.slice a (acL x.f11.z e x.f11.n).length c)∧Nml w' a (acL x.f11.z e x.f11.n)∧Below w.heap.size w w':=by
 obtain ⟨W0,hW0⟩:∃ W,w.alloc (.cells (cel (aA0 x)) 49)=W:=⟨_,rfl⟩
 have r0:W0.heap[w.heap.size]?=some (.cells (cel (aA0 x)) 49):=by rw [←hW0];exact aA2 rfl
 have hB0:Below w.heap.size w W0:=by rw [←hW0];exact (Below.refl _ _).alloc (Nat.le_refl _) _
 have z0:w.heap.size < W0.heap.size:=(Array.getElem?_eq_some_iff.1 r0).1
 have hcs:∀ W:World,Below W0.heap.size W0 W→W.cell? ⟨w.heap.size,721,none⟩=some (.slice x.f11.a x.f11.n x.f11.c):=fun W h=>aFv ((h.block _ z0).trans r0)
 have hel:=hx.el.below hB0
 have hnb:=hx.nb
 generalize x.f11.a=A at *
 generalize x.f11.n=n at *
 generalize x.f11.c=C at *
 generalize x.f11.z=z at *
 have HB:=hid hB0
 have HW:=hid hW0
 have HC:=hid hcs
 have HE:=hid hel
 clear hB0 hW0 r0 hcs hel hx
 go_enter Tryz.func114,Tryz.ntmps114
 go_upto_region 1 with fail
 rw [HW.out]
 clear HW
 have cc:=HC.out W0 (Below.refl _ _)
 have zv:=aBP
 go_wp2
 go_loopw [5,11] (fun v c wr=>∃ (k:Nat) (v':Value),k≤n∧v=v'∧c=.int .i64 k∧wr.ownsRow W0.heap.size 22 1 v' (acL z e k).length (iv6 (acL z e k))∧Below W0.heap.size W0 wr) (fun _ c _=>n - (intOf c).toNat)
 case atStart=>exact ⟨0,_,by omega,rfl,rfl,World.ownsRow_nil _ _ _ _,Below.refl _ _⟩
 case round =>
  obtain ⟨k,v,hk,ev,rfl,ho,hw⟩:=hrel
  obtain rfl:=ev.symm
  clear ev
  have c0:=HC.out wr hw
  by_cases hkn:k < n
  ·have k1:(k:Int) < (n:Int):=by omega
   have k2:(0:Int)≤(k:Int):=by omega
   have kw:IntKind.u64.wrap (k:Int)=(k:Int):=by rw [IntKind.wrap_u64];omega
   rcases HE.out.below hw with h0 | ⟨b,off,ea,hbl,hc⟩
   ·omega
   subst ea
   have lv:=aB2 (hc k hkn)
   have ix:=fun W=>aB7 W b off n C k hkn
   obtain ⟨P,eP⟩:∃ P,off+86*k=P:=⟨_,rfl⟩
   rw [eP] at lv
   simp only [eP] at ix
   have hact:=fun W:World=>aJ3 (z k) e W
   have hln:=aEQ z e k
   have hstep:acL z e (k+1)=if aEz (z k) e=true then acL z e k++[(k:Int)] else acL z e k:=rfl
   obtain ⟨b',hb'⟩:∃ b,aEz (z k) e=b:=⟨_,rfl⟩
   rw [hb'] at hact hstep
   obtain ⟨V,hV⟩:∃ V,z k=V:=⟨_,rfl⟩
   rw [hV] at lv hact
   have HACT:=hid hact
   have HO:=hid ho
   have HW:=hid hw
   have HST:=hid hstep
   have sv:=aBj wr aBe V
   obtain ⟨W1,hW1⟩:∃ W,wr.alloc (.cells (cel (aA3 V)) 65)=W:=⟨_,rfl⟩
   rw [hW1] at sv
   have r1:W1.heap[wr.heap.size]?=some (.cells (cel (aA3 V)) 65):=by rw [←hW1];exact aA2 rfl
   have hE1:Below wr.heap.size wr W1:=by rw [←hW1];exact (Below.refl _ _).alloc (Nat.le_refl _) _
   obtain ⟨y,ey⟩:∃ y,wr.heap.size=y:=⟨_,rfl⟩
   rw [ey] at sv r1
   have lw:=aDy r1
   have ho':=own_below HO.out hE1
   have hw':=HW.out.trans (hE1.mono HW.out.size)
   clear HO HW
   have HO:=hid ho'
   have HW:=hid hw'
   clear hact ho hw hstep hc hbl eP hb' hV ho' hw' hE1 r1
   go_upto_region 5 with fail
   clear sv lv ix c0 hW1 ey
   cases b'
   ·go_wp2_with (go_at_call 133;refine (HACT.out _).mono ?_;rintro e' w1 ⟨rfl,hb1⟩)
    have ho1:=own_below HO.out hb1
    have hw1:=HW.out.trans (hb1.mono HW.out.size)
    go_roundw
    case rel=>exact ⟨k+1,_,by omega,rfl,by go_num,by rw [HST.out];exact ho1,hw1⟩
    case measure=>simp [intOf];omega
   ·go_upto_region 6 with (go_at_call 133;refine (HACT.out _).mono ?_;rintro e' w1 ⟨rfl,hb1⟩)
    have ho1:=own_below HO.out hb1
    have hw1:=HW.out.trans (hb1.mono HW.out.size)
    have HO1:=hid ho1
    have HW1:=hid hw1
    clear ho1 hw1 hb1 HO HW lw
    go_wp2_with (at_builtin;(refine aB5 w1 rfl _ _ rfl W0.heap.size v (acL z e k) (k:Int) rfl HO1.out rfl (by omega) HW1.out.size ?_);intro v2 w2 ho2 hg2)
    have hb2:=below_grown HW1.out HO1.out HW1.out.size hg2
    go_roundw
    case rel=>exact ⟨k+1,_,by omega,rfl,by go_num,by rw [HST.out];exact ho2,hb2⟩
    case measure=>simp [intOf];omega
  ·obtain rfl:k=n:=by omega
   have HW:=hid hw
   have HO:=hid ho
   clear hw ho
   go_wp2
   obtain ⟨a',C',rfl,hn⟩:=aCd HO.out
   go_ret
   exact ⟨a',C',rfl,hn,HB.out.trans (HW.out.mono (by omega))⟩
end
section
open Go.RowKit
set_option linter.unusedVariables false
set_option linter.unusedSimpArgs false
set_option maxRecDepth 20000
attribute [local go_sem ↓] aAq aAr aAz aAi aAl aAw
set_option maxHeartbeats 1000000 in
theorem aHx (x : aA1) (w : World) (h0 : 0 ≤ x.f2) (h1 : x.f2 < 1099511627776) :
    Calls Tryz.prog 124 #[.agg (cel (aA0 x))] w fun e' w'=>e'=.returned (.int .u64 (x.f2 / 4))∧Below w.heap.size w w':=by
 obtain ⟨W0,hW0⟩:∃ W,w.alloc (.cells (cel (aA0 x)) 49)=W:=⟨_,rfl⟩
 have r0:W0.heap[w.heap.size]?=some (.cells (cel (aA0 x)) 49):=by rw [←hW0];exact aA2 rfl
 have hB0:Below w.heap.size w W0:=by rw [←hW0];exact (Below.refl _ _).alloc (Nat.le_refl _) _
 have l2:=cS2 r0
 generalize x.f2=p at *
 have HB:=hid hB0
 have HW:=hid hW0
 clear hB0 hW0 r0
 go_enter Tryz.func124,Tryz.ntmps124
 go_upto_region 1 with fail
 rw [HW.out]
 clear HW
 go_wp2
 go_ret
 exact ⟨aB9 rfl,HB.out⟩
set_option maxHeartbeats 2000000 in
theorem aK6 (x : aA1) (w : World) (hx : Lk w x) :
    Calls Tryz.prog 104 #[.agg (cel (aA0 x))] w fun e' w'=>e'=.returned (.int .u64 (aJL x))∧Below w.heap.size w w':=by
 obtain ⟨W0,hW0⟩:∃ W,w.alloc (.cells (cel (aA0 x)) 49)=W:=⟨_,rfl⟩
 have r0:W0.heap[w.heap.size]?=some (.cells (cel (aA0 x)) 49):=by rw [←hW0];exact aA2 rfl
 have hB0:Below w.heap.size w W0:=by rw [←hW0];exact (Below.refl _ _).alloc (Nat.le_refl _) _
 have z0:w.heap.size < W0.heap.size:=(Array.getElem?_eq_some_iff.1 r0).1
 have hld:∀ W:World,Below W0.heap.size W0 W→(aCc ⟨w.heap.size,0,none⟩).run Tryz.prog W=.ok (.agg (cel (aA0 x))) W:=fun W h=>aAg ((h.block _ z0).trans r0)
 have hx0:=hx.below hB0
 have hep:=fun W:World=>aHx x W hx.sl.1 hx.sl.2
 have hac:∀ W:World,Below W0.heap.size W0 W→Calls Tryz.prog 114 #[.agg (cel (aA0 x)),.int .u64 (x.f2 / 4)] W fun e' w'=>∃ a c,e'=.returned (.slice a (acS x).length c)∧Nml w' a (acS x)∧Below W.heap.size W w':=fun W h=>aER x (x.f2 / 4) W (hx0.below h)
 have hch:aJL x=if ((acS x).length:Int) / 32 < 2 then 2 else ((acS x).length:Int) / 32:=rfl
 have hlen:(acS x).length≤65536:=Nat.le_trans (aEQ _ _ _) hx.nb
 generalize aJL x=R at *
 generalize x.f2 / 4=E at *
 generalize (acS x)=L at *
 obtain ⟨n,hn⟩:∃ n,L.length=n:=⟨_,rfl⟩
 rw [hn] at hac hch hlen
 have nw:IntKind.u64.wrap (n:Int)=(n:Int):=by rw [IntKind.wrap_u64];omega
 have n0:(0:Int)≤(n:Int):=by omega
 have n1:(n:Int)≤65536:=by omega
 have n2:IntKind.u64.wrap ((n:Int) / 32)=(n:Int) / 32:=by rw [IntKind.wrap_u64];omega
 have n3:IntKind.u64.wrap ((n:Int).tdiv 32)=(n:Int) / 32:=by rw [Int.tdiv_eq_ediv_of_nonneg n0];exact n2
 have hdr:Below W0.heap.size W0 W0.drew:=(Below.refl _ _).drew
 have HDR:=hid hdr
 have HB:=hid hB0
 have HW:=hid hW0
 have HLD:=hid hld
 have HEP:=hid hep
 have HAC:=hid hac
 have HCH:=hid hch
 clear hdr hB0 hW0 hld hep hac hx hx0 r0 hch hn
 by_cases h2:(n:Int) / 32 < 2
 ·go_enter Tryz.func104,Tryz.ntmps104
  go_upto_region 1 with fail
  rw [HW.out]
  clear HW
  refine wp_region_noPanic ?_
  refine wp_region_held_drew (S:=fun W=>Below W0.heap.size W0 W) (by kernel_rfl) (HDR.out) (fun hHeld=>?_)
  refine tk 0 (v:=?v11) ?y11 hHeld ?r11
  case y11=>intro w hSw;have ld:=HLD.out _ hSw;go_simp;try with_reducible rfl
  refine tk 1 (v:=?v12) ?y12 hHeld ?r12
  case y12=>intro w hSw;have ld:=HLD.out _ hSw;go_simp;try with_reducible rfl
  try simp only [Act.put,z_1,z_2,z_3,z_4,z_5,z_6,z_7]
  refine wpAnyH_ready (rs:=[2]) (by kernel_rfl) (by simp) ?_
  refine AllReadyH.cons rfl (fun K hK=>?_) AllReadyH.nil
  go_simp
  refine (HEP.out _).mono ?_
  rintro e' w1 ⟨rfl,hb1⟩
  dsimp only
  have hB1:Below W0.heap.size W0 w1:=HDR.out.trans (hb1.mono HDR.out.size)
  refine hK.out _ _ (hB1) (fun hHeld=>?_)
  clear hK K
  try simp only [Act.put,z_1,z_2,z_3,z_4,z_5,z_6,z_7]
  refine wpAnyH_ready (rs:=[3]) (by kernel_rfl) (by simp) ?_
  refine AllReadyH.cons rfl (fun K hK=>?_) AllReadyH.nil
  go_simp
  refine (HAC.out _ hB1).mono ?_
  rintro e' w2 ⟨a2,c2,rfl,hn2,hb2⟩
  dsimp only
  have hB2:Below W0.heap.size W0 w2:=hB1.trans (hb2.mono hB1.size)
  refine hK.out _ _ (hB2) (fun hHeld=>?_)
  clear hK K
  try simp only [Act.put,z_1,z_2,z_3,z_4,z_5,z_6,z_7]
  refine tk 4 (v:=?v13) ?y13 hHeld ?r13
  case y13=>intro w hSw;go_simp;try with_reducible rfl
  try simp only [Act.put,z_1,z_2,z_3,z_4,z_5,z_6,z_7]
  refine wpAnyH_done (by kernel_rfl) ?_ _
  refine NoPanic.normal ?_
  go_wp2
  go_ret
  exact ⟨aB9 (by rw [HCH.out];split<;>omega),HB.out.trans (hB2.mono (by omega))⟩
 ·go_enter Tryz.func104,Tryz.ntmps104
  go_upto_region 1 with fail
  rw [HW.out]
  clear HW
  refine wp_region_noPanic ?_
  refine wp_region_held_drew (S:=fun W=>Below W0.heap.size W0 W) (by kernel_rfl) (HDR.out) (fun hHeld=>?_)
  refine tk 0 (v:=?v501) ?y501 hHeld ?r501
  case y501=>intro w hSw;have ld:=HLD.out _ hSw;go_simp;try with_reducible rfl
  refine tk 1 (v:=?v502) ?y502 hHeld ?r502
  case y502=>intro w hSw;have ld:=HLD.out _ hSw;go_simp;try with_reducible rfl
  try simp only [Act.put,z_1,z_2,z_3,z_4,z_5,z_6,z_7]
  refine wpAnyH_ready (rs:=[2]) (by kernel_rfl) (by simp) ?_
  refine AllReadyH.cons rfl (fun K hK=>?_) AllReadyH.nil
  go_simp
  refine (HEP.out _).mono ?_
  rintro e' w1 ⟨rfl,hb1⟩
  dsimp only
  have hB1:Below W0.heap.size W0 w1:=HDR.out.trans (hb1.mono HDR.out.size)
  refine hK.out _ _ (hB1) (fun hHeld=>?_)
  clear hK K
  try simp only [Act.put,z_1,z_2,z_3,z_4,z_5,z_6,z_7]
  refine wpAnyH_ready (rs:=[3]) (by kernel_rfl) (by simp) ?_
  refine AllReadyH.cons rfl (fun K hK=>?_) AllReadyH.nil
  go_simp
  refine (HAC.out _ hB1).mono ?_
  rintro e' w2 ⟨a2,c2,rfl,hn2,hb2⟩
  dsimp only
  have hB2:Below W0.heap.size W0 w2:=hB1.trans (hb2.mono hB1.size)
  refine hK.out _ _ (hB2) (fun hHeld=>?_)
  clear hK K
  try simp only [Act.put,z_1,z_2,z_3,z_4,z_5,z_6,z_7]
  refine tk 4 (v:=?v503) ?y503 hHeld ?r503
  case y503=>intro w hSw;go_simp;try with_reducible rfl
  try simp only [Act.put,z_1,z_2,z_3,z_4,z_5,z_6,z_7]
  refine wpAnyH_done (by kernel_rfl) ?_ _
  refine NoPanic.normal ?_
  go_wp2
  go_ret
  exact ⟨aB9 (by rw [HCH.out];split<;>omega),HB.out.trans (hB2.mono (by omega))⟩
end
end Go.Proofs.YtdjplhibmomajaaGreatDoor
