/- A part. -/
import Derived.Test.YtfgmddnfhphdeaaGreatDoorStD
import Derived.Test.YtfgmddnfhphdeaaGreatDoorStY
import Derived.Test.YtfgmddnfhphdeaaGreatDoorQD
import Derived.Test.YtfgmddnfhphdeaaGreatDoorMaE
import Derived.Test.YtfgmddnfhphdeaaGreatDoorHaG
import Derived.Test.YtfgmddnfhphdeaaGreatDoorHaE
import Derived.Test.YtfgmddnfhphdeaaGreatDoorRows
import Derived.Test.YtfgmddnfhphdeaaGreatDoorMaC
import Derived.Test.YtfgmddnfhphdeaaGreatDoorMaD
import Derived.Laws.AppendOwnNone
import Derived.BigQuiet
import Derived.Deep.QuietTactic
import Derived.Deep.RegionHeld3
import Derived.Deep.Onto
import Derived.Handy
import Derived.WalkKit
import Derived.ArgAppend
import Derived.Laws.BitsAllLaws
import Derived.Deep.WholeRow
import Derived.ChangeSlices
import Derived.ChangeArms
import Derived.ChangeOld
import Derived.SizedLaws
import Derived.Deep.Grids
namespace Go.Proofs.YtfgmddnfhphdeaaGreatDoor
open Go.RowKit
set_option linter.unusedVariables false
set_option linter.unusedSimpArgs false
section
open Go.RowKit
set_option linter.unusedVariables false
set_option linter.unusedSimpArgs false
set_option maxRecDepth 20000
def actB (v:VValidator) (e:Int):Bool:=decide (v.f5≤e) && decide (e < v.f6)
def acL (z:Nat→VValidator) (e:Int):Nat→List Int
 | 0 => []
 | k + 1 => if actB (z k) e = true then acL z e k ++ [(k : Int)] else acL z e k
theorem acL_len (z:Nat→VValidator) (e:Int) (k:Nat):(acL z e k).length≤k:=by
 induction k with
 | zero => exact Nat.le_refl _
 | succ k ih =>
  unfold acL
  split
  ·simp;omega
  ·omega
def iv6 (l:List Int):List Value:=l.map (Value.int .u64)
theorem info64:(Tryz.prog.info? 22).map (fun i=>(i.zero,i.size,i.bytes))=some (some (.int .u64 0),1,8):=by kernel_rfl
theorem wpList_append_one (w : World) {ops : Array Oper} {rest : List Oper} {o : Oper} {a : Act} {Q : Exit → Act → World → Prop} (hgd : o.guard = none) (s x : Operand)
    (ho:o.op=.call { callee:=.builtin .append,args:=#[s,x],argTypes:=#[37,37] })
    (base:Nat) (v:Value) (l:List Int) (z:Int) (hs:a.eval s=v) (hown:w.ownsRow base 22 1 v l.length (iv6 l))
    (hx:a.eval x=.slice (some ⟨w.heap.size,0,none⟩) 1 1) (hbd:l.length+1≤17592186044416) (hbase:base≤w.heap.size)
    (h:∀ v' w',w'.ownsRow base 22 1 v' (l++[z]).length (iv6 (l++[z]))→w.grownBy w' v.ownBlock→wpList Tryz.prog ops Q rest (a.put o.dst v') w') :
    wpList Tryz.prog ops Q (o :: rest) a (w.alloc (.cells #[.int .u64 z] 22)):=by
 obtain ⟨i,hi,hz0,hz1,hz2⟩:=info_parts info64
 refine wpList_append_own _ hgd s x 37 ho base 22 i (.int .u64 0) 1 8 Tryz.underlying37 hi hz0 hz1 hz2 rfl (by decide) v l.length (iv6 l) hs (hown.alloc _) ⟨w.heap.size,0,none⟩ 1 1 [.int .u64 z] hx rfl (cell_one_new _ _ _)
  (fun u hu=>by simp at hu;subst hu;rfl) (by unfold maxLen;omega) (by omega) (by simp;omega) (fun v' w' h1 h2 _=>?_)
 have e:iv6 l++[.int .u64 z]=iv6 (l++[z]):=by simp [iv6]
 rw [e] at h1
 refine h v' w' (by rw [List.length_append];exact h1) ⟨h2.os,h2.tape,h2.output,?_,fun k hk hne=>?_⟩
 ·have:=h2.size
  simp at this
  omega
 ·exact (h2.block k (by simp;omega) hne).trans (heap_old hk)
def Nml (w:World) (a:Option Addr) (l:List Int):Prop:=Z.Nms .u64 w a l.length (fun j=>l.getD j 0)
theorem own_nml {w:World} {B:Nat} {v:Value} {l:List Int} (h:w.ownsRow B 22 1 v l.length (iv6 l)):∃ a C,v=.slice a l.length C∧Nml w a l:=by
 rcases h.2 with ⟨h1,h2⟩ | ⟨g,cap,cur,h1,_,_,h2,h3,_⟩
 ·subst h1
  exact ⟨none,0,by rw [h2],.inl h2⟩
 ·subst h1
  refine ⟨some ⟨g,0,none⟩,cap,rfl,.inr ⟨g,0,rfl,(h.lt g rfl).2,fun j hj=>?_⟩⟩
  have hj':(iv6 l)[j]?=some (.int .u64 (l.getD j 0)):=by
   unfold iv6
   rw [List.getElem?_map,List.getElem?_eq_getElem hj,List.getD_eq_getElem?_getD,List.getElem?_eq_getElem hj]
   rfl
  have:=h.cells (g:=g) rfl j _ hj'
  rw [addr_add] at this
  exact this
theorem own_below {w w':World} {B:Nat} {e:TypeId} {v:Value} {n:Nat} {xs:List Value} (h:w.ownsRow B e 1 v n xs) (hb:Below w.heap.size w w'):w'.ownsRow B e 1 v n xs:=by
 refine ⟨h.1,?_⟩
 rcases h.2 with h | ⟨g,cap,cur,e1,e2,e3,e4⟩
 ·exact .inl h
 ·exact .inr ⟨g,cap,cur,e1,e2,(hb.block _ (Array.getElem?_eq_some_iff.1 e3).1).trans e3,e4⟩
theorem drewN_heap (w:World):∀ q,(w.drewN q).heap=w.heap∧(w.drewN q).os=w.os∧(w.drewN q).tape=w.tape∧(w.drewN q).output=w.output:=by
 intro q
 induction q with
 | zero => exact ⟨rfl, rfl, rfl, rfl⟩
 | succ q ih => exact ih
theorem below_drewN {B:Nat} {w w':World} (h:Below B w w') (q:Nat):Below B w (w'.drewN q):=by
 obtain ⟨h1,h2,h3,h4⟩:=drewN_heap w' q
 exact ⟨h2.trans h.os,h3.trans h.tape,h4.trans h.output,by rw [h1];exact h.size,fun k hk=>by rw [h1];exact h.block k hk⟩
theorem ret_int {k:IntKind} {a b:Int} (h:a=b):Ending.returned (.int k a)=.returned (.int k b):=by rw [h]
theorem ret_bool {a b:Bool} (h:a=b):Ending.returned (.bool a)=.returned (.bool b):=by rw [h]
end
section
open Go.RowKit
set_option linter.unusedVariables false
set_option linter.unusedSimpArgs false
set_option maxRecDepth 20000
structure Lk (w:World) (x:VState):Prop where
 el:Els w x.f11.a x.f11.n 86 (fun i=>celL (sValidator (x.f11.z i)))
 nb:x.f11.n≤65536
 ef:∀ j,j < x.f11.n→0≤(x.f11.z j).f2∧(x.f11.z j).f2≤32000000000
 sl:0≤x.f2∧x.f2 < 1099511627776
theorem Lk.below {w w':World} {x:VState} (h:Lk w x) (hb:Below w.heap.size w w'):Lk w' x:=⟨h.el.below hb,h.nb,h.ef,h.sl⟩
attribute [local go_sem ↓] lvState_eq svState_eq bdState_eq lvValidator_eq svValidator_eq ixValidator_eq
theorem ixValidator_u (w:World) (b off len cap i:Nat) (h:i < len):(ixValidator (.slice (some ⟨b,off,none⟩) len cap) (.int .u64 i)).run Tryz.prog w=.ok (.pointer (some ⟨b,off+86*i,none⟩)) w:=by
 unfold ixValidator Instr.indexAt
 have h1:(0:Int)≤(i:Int)∧(i:Int) < (len:Int):=by omega
 simp only [asIntOf,Sem.run_bind,Sem.run_pure,Result.andThen_ok,run_underlying Tryz.underlying36,if_pos h1,sizeValidator,Addr.add_mid,Int.toNat_natCast]
 rw [Nat.mul_comm]
theorem own_down {w:World} {B B':Nat} {e:TypeId} {s n:Nat} {v:Value} {xs:List Value} (h:w.ownsRow B e s v n xs) (hB:B'≤B):w.ownsRow B' e s v n xs:=by
 refine ⟨h.1,?_⟩
 rcases h.2 with h | ⟨g,cap,cur,e1,e2,e3⟩
 ·exact .inl h
 ·exact .inr ⟨g,cap,cur,e1,Nat.le_trans hB e2,e3⟩
end
section
open Go.RowKit
set_option linter.unusedVariables false
set_option linter.unusedSimpArgs false
set_option maxRecDepth 20000
attribute [local go_sem ↓] lvState_eq svState_eq bdState_eq lvValidator_eq svValidator_eq ixValidator_eq
def acS (x:VState):List Int:=acL x.f11.z (x.f2 / 4) x.f11.n
def chuS (x:VState):Int:=if ((acS x).length:Int) / 32 < 2 then 2 else ((acS x).length:Int) / 32
end
section
open Go.RowKit
set_option linter.unusedVariables false
set_option linter.unusedSimpArgs false
set_option maxRecDepth 20000
attribute [local go_sem ↓] lvState_eq svState_eq bdState_eq lvValidator_eq svValidator_eq ixValidator_eq
theorem RtO.lk {x:VState} (h:RtO x) {w:World} (hx:OkState x) (hw:InW w x):Lk w x:=by
 refine ⟨hw.i11,h.c0,fun j hj=>?_,hx.o2.1,h.c7⟩
 have hv:=h.cv j hj
 have ho:=(hx.o11 j hj).2.2.1
 unfold vldB at hv
 simp only [Bool.and_eq_true,decide_eq_true_eq] at hv
 exact ⟨ho.1,hv.2.1⟩
theorem lvValidator_row {w:World} {b:Nat} {x:VValidator} {t:TypeId} (h:w.heap[b]?=some (.cells (cel (sValidator x)) t)):(lvValidator ⟨b,0,none⟩).run Tryz.prog w=.ok (.agg (cel (sValidator x))) w :=
 loadAt_var (load_row h 74 _ Tryz.underlying74 rfl (by rw [cel_size,slValidator];kernel_rfl))
theorem OkState.r' {x:VState} (h:OkState x):OkR x:=⟨h.o2,h.o11,h.o12,h.o14,h.o21⟩
theorem InW.r' {w:World} {x:VState} (h:InW w x):InR w x:=⟨h.i11,h.i12,h.i21⟩
end
section
open Go.RowKit
set_option linter.unusedVariables false
set_option linter.unusedSimpArgs false
set_option maxRecDepth 100000
def bvV (ps:Array (Nat × Value)):Sem Value:=Instr.build 74 ps
theorem bvV_eq (ps:Array (Nat × Value)):Instr.build 74 ps=bvV ps:=rfl
def bsV (n:Nat) (ps:Array (Nat × Value)):Sem Value:=Instr.buildSlice 36 n ps
theorem bsV_eq (n:Nat) (ps:Array (Nat × Value)):Instr.buildSlice 36 n ps=bsV n ps:=rfl
def oV1:VValidator:=⟨fun _=>0,fun _=>0,32000000000,false,0,0,9,0⟩
def X0 (g1 g2 g3 g4 g5:Nat):VState:={ oState with f11:=⟨some ⟨g1,0,none⟩,1,1,fun _=>oV1⟩,f12:=⟨some ⟨g2,0,none⟩,1,1,fun _=>0⟩,f15:=⟨some ⟨g3,0,none⟩,1,1,fun _=>0⟩,f16:=⟨some ⟨g4,0,none⟩,1,1,fun _=>0⟩,f21:=⟨some ⟨g5,0,none⟩,1,1,fun _=>0⟩ }
end
section
open Go.RowKit
set_option linter.unusedVariables false
set_option linter.unusedSimpArgs false
set_option maxRecDepth 20000
def ix31 (x i:Value):Sem Value:=Instr.indexAt 31 x i
theorem ix31_eq (x i:Value):Instr.indexAt 31 x i=ix31 x i:=rfl
def lesV (a b:Int):Int:=if a < b then 0 else a - b
attribute [local go_sem ↓] lvState_eq svState_eq bdState_eq lvValidator_eq svValidator_eq ixValidator_eq sv24_eq lv24_eq bd27_eq sv8_eq ix31_eq
def sdM (k e:Int) (m:Nat→Int) (j:Nat):Int:=if j < 4 then nmB k j else if j < 12 then nmB e (j - 4) else m (j - 12)
def mixP (e:Int):Nat:=((e % 8+6) % 8).toNat
def mixV (x:VState) (e:Int) (j:Nat):Int:=x.f13 (32*mixP e+j)
def seedV (x:VState) (e k:Int):Nat→Int:=shaV KW HW (sdM (k % 4294967296) e (mixV x e)) 44
theorem bl_add' (m c:Nat→Int) (n k:Nat) (hm:∀ j,j < k→m (n+j)=c j):bl m n++bl c k=bl m (n+k):=by
 unfold bl
 rw [List.range_add,List.map_append,List.map_map]
 congr 1
 refine List.map_congr_left fun j hj=>?_
 show Value.int .u8 (c j)=Value.int .u8 (m (n+j))
 rw [hm j (List.mem_range.1 hj)]
end
section
open Go.RowKit
set_option linter.unusedVariables false
set_option linter.unusedSimpArgs false
def bt (n:Int):Nat→Int
 | 0 => n % 256
 | 1 => n / 256 % 256
 | 2 => n / 65536 % 256
 | 3 => n / 16777216 % 256
 | 4 => n / 4294967296 % 256
 | 5 => n / 1099511627776 % 256
 | 6 => n / 281474976710656 % 256
 | _ => n / 72057594037927936 % 256
def num8 (z0 z1 z2 z3 z4 z5 z6 z7:Int):Int:=z0+z1*256+z2*65536+z3*16777216+z4*4294967296+z5*1099511627776+z6*281474976710656+z7*72057594037927936
end
section
set_option linter.unusedVariables false
def fl (i n p:Int):Int:=(p+n - i) % n
def mx (a b:Int):Int:=if a < b then b else a
def rdX (B:Int→Bool) (p n i:Int):Int:=if B (mx i (fl i n p))=true then fl i n p else i
end
section
open Go.RowKit
set_option linter.unusedVariables false
set_option linter.unusedSimpArgs false
def sd1 (s:Nat→Int) (r:Int) (j:Nat):Int:=if j < 32 then s j else r
def sd2 (s:Nat→Int) (r q:Int) (j:Nat):Int:=if j < 33 then sd1 s r j else bt q (j - 33)
def pvN (s:Nat→Int) (r:Int):Int:=num8 (shaV KW HW (sd1 s r) 33 0) (shaV KW HW (sd1 s r) 33 1) (shaV KW HW (sd1 s r) 33 2) (shaV KW HW (sd1 s r) 33 3) (shaV KW HW (sd1 s r) 33 4) (shaV KW HW (sd1 s r) 33 5) (shaV KW HW (sd1 s r) 33 6) (shaV KW HW (sd1 s r) 33 7)
def pv (s:Nat→Int) (r n:Int):Int:=pvN s r % n
def srcV (s:Nat→Int) (r q:Int):Nat→Int:=shaV KW HW (sd2 s r q) 37
def bitB (f:Nat→Int) (p:Int):Bool:=decide (f (p % 256 / 8).toNat / 2 ^ (p % 8).toNat % 2=1)
def rdB (s:Nat→Int) (r:Int) (p:Int):Bool:=bitB (srcV s r (p / 256)) p
def rdV (s:Nat→Int) (r n i:Int):Int:=rdX (rdB s r) (pv s r n) n i
attribute [local go_sem ↓] sv24_eq lv24_eq sv8_eq
end
section
open Go.RowKit
set_option linter.unusedVariables false
set_option linter.unusedSimpArgs false
set_option maxRecDepth 20000
set_option maxHeartbeats 1000000 in
theorem wbytes_any (n : Int) (w : World) (h0 : 0 ≤ n) (h1 : n ≤ 18446744073709551615) :
    Calls Tryz.prog 113 #[.int .u64 n] w fun e w'=>e=.returned (.agg (vs .u8 8 (nmB n)))∧Below w.heap.size w w':=by
 have e0:vs .u8 8 (nmB n)=#[.int .u8 (n % 256),.int .u8 (n / 256 % 256),.int .u8 (n / 65536 % 256),.int .u8 (n / 16777216 % 256),.int .u8 (n / 4294967296 % 256),.int .u8 (n / 1099511627776 % 256),.int .u8 (n / 281474976710656 % 256),.int .u8 (n / 72057594037927936)]:=by
  have e7:n / 72057594037927936=n / 72057594037927936 % 256:=by omega
  have e1:n % 256=n / 1 % 256:=by omega
  rw [e7,e1]
  rfl
 rw [e0]
 clear e0
 go_enter Tryz.func113,Tryz.ntmps113
 go_wp2
 go_rounds 9
 go_returns
 exact ⟨rfl,by go_grown⟩
theorem lessR_any (a b : Int) (w : World) (ha : 0 ≤ a) (ha' : a < 18446744073709551616) (hb : 0 ≤ b) (hb' : b < 18446744073709551616) :
    Calls Tryz.prog 73 #[.int .u64 a,.int .u64 b] w fun e w'=>e=.returned (.int .u64 (lesV a b))∧w'=w:=by
 by_cases h:a < b
 ·have e0:lesV a b=0:=by unfold lesV;rw [if_pos h]
  rw [e0]
  clear e0
  go_enter Tryz.func73,Tryz.ntmps73
  go_wp2
  go_ret
  exact ⟨rfl,rfl⟩
 ·have e0:lesV a b=a - b:=by unfold lesV;rw [if_neg h]
  rw [e0]
  clear e0
  go_enter Tryz.func73,Tryz.ntmps73
  go_wp2
  go_ret
  exact ⟨rfl,rfl⟩
attribute [local go_sem ↓] lvState_eq svState_eq bdState_eq lvValidator_eq svValidator_eq ixValidator_eq sv24_eq lv24_eq bd27_eq sv8_eq ix31_eq
end
section
open Go.RowKit
set_option linter.unusedVariables false
set_option linter.unusedSimpArgs false
set_option maxRecDepth 20000
attribute [local go_sem ↓] lvState_eq svState_eq bdState_eq lvValidator_eq svValidator_eq ixValidator_eq
set_option maxHeartbeats 1000000 in
theorem active_any (v : VValidator) (e : Int) (w : World) :
    Calls Tryz.prog 72 #[.agg (cel (sValidator v)),.int .u64 e] w fun e' w'=>e'=.returned (.bool (actB v e))∧Below w.heap.size w w':=by
 obtain ⟨W0,hW0⟩:∃ W,w.alloc (.cells (cel (sValidator v)) 74)=W:=⟨_,rfl⟩
 have r0:W0.heap[w.heap.size]?=some (.cells (cel (sValidator v)) 74):=by rw [←hW0];exact heap_new rfl
 have hB0:Below w.heap.size w W0:=by rw [←hW0];exact (Below.refl _ _).alloc (Nat.le_refl _) _
 have l5:=seg_nu r0 5 v.f5 rfl 83 rfl
 have l6:=seg_nu r0 6 v.f6 rfl 84 rfl
 have hE:actB v e=(decide (v.f5≤e) && decide (e < v.f6)):=rfl
 generalize v.f5=p at *
 generalize v.f6=q at *
 have HB:=hid hB0
 have HW:=hid hW0
 have HE:=hid hE
 clear hB0 hW0 r0 hE
 by_cases h:p≤e
 ·have d1:decide (p≤e)=true:=by simp [h]
  go_enter Tryz.func72,Tryz.ntmps72
  go_upto_region 1 with fail
  rw [HW.out]
  clear HW
  go_wp2
  go_ret
  exact ⟨ret_bool (by rw [HE.out,d1,Bool.true_and]),HB.out⟩
 ·have d1:decide (p≤e)=false:=by simp [h]
  go_enter Tryz.func72,Tryz.ntmps72
  go_upto_region 1 with fail
  rw [HW.out]
  clear HW
  go_wp2
  go_ret
  exact ⟨ret_bool (by rw [HE.out,d1,Bool.false_and]),HB.out⟩
set_option maxHeartbeats 2000000 in
theorem actives_any (x : VState) (e : Int) (w : World) (hx : Lk w x) :
    Calls Tryz.prog 123 #[.agg (cel (sState x)),.int .u64 e] w fun e' w'=>∃ a c,e'=.returned (.slice a (acL x.f11.z e x.f11.n).length c)∧Nml w' a (acL x.f11.z e x.f11.n)∧Below w.heap.size w w':=by
 obtain ⟨W0,hW0⟩:∃ W,w.alloc (.cells (cel (sState x)) 49)=W:=⟨_,rfl⟩
 have r0:W0.heap[w.heap.size]?=some (.cells (cel (sState x)) 49):=by rw [←hW0];exact heap_new rfl
 have hB0:Below w.heap.size w W0:=by rw [←hW0];exact (Below.refl _ _).alloc (Nat.le_refl _) _
 have z0:w.heap.size < W0.heap.size:=(Array.getElem?_eq_some_iff.1 r0).1
 have hcs:∀ W:World,Below W0.heap.size W0 W→W.cell? ⟨w.heap.size,721,none⟩=some (.slice x.f11.a x.f11.n x.f11.c):=fun W h=>cS11 ((h.block _ z0).trans r0)
 have hel:=hx.el.below hB0
 have hnb:=hx.nb
 generalize x.f11.a=A at *
 generalize x.f11.n=n at *
 generalize x.f11.c=C at *
 generalize x.f11.z=z at *
 have HB:=hid hB0
 have HW:=hid hW0
 have HC:=hid hcs
 have HE:=hid hel
 clear hB0 hW0 r0 hcs hel hx
 go_enter Tryz.func123,Tryz.ntmps123
 go_upto_region 1 with fail
 rw [HW.out]
 clear HW
 have cc:=HC.out W0 (Below.refl _ _)
 have zv:=zeroValidator
 go_wp2
 go_loopw [5,11] (fun v c wr=>∃ (k:Nat) (v':Value),k≤n∧v=v'∧c=.int .i64 k∧wr.ownsRow W0.heap.size 22 1 v' (acL z e k).length (iv6 (acL z e k))∧Below W0.heap.size W0 wr) (fun _ c _=>n - (intOf c).toNat)
 case atStart=>exact ⟨0,_,by omega,rfl,rfl,World.ownsRow_nil _ _ _ _,Below.refl _ _⟩
 case round =>
  obtain ⟨k,v,hk,ev,rfl,ho,hw⟩:=hrel
  obtain rfl:=ev.symm
  clear ev
  have c0:=HC.out wr hw
  by_cases hkn:k < n
  ·have k1:(k:Int) < (n:Int):=by omega
   have k2:(0:Int)≤(k:Int):=by omega
   have kw:IntKind.u64.wrap (k:Int)=(k:Int):=by rw [IntKind.wrap_u64];omega
   rcases HE.out.below hw with h0 | ⟨b,off,ea,hbl,hc⟩
   ·omega
   subst ea
   have lv:=lvValidator_at (hc k hkn)
   have ix:=fun W=>ixValidator_run W b off n C k hkn
   obtain ⟨P,eP⟩:∃ P,off+86*k=P:=⟨_,rfl⟩
   rw [eP] at lv
   simp only [eP] at ix
   have hact:=fun W:World=>active_any (z k) e W
   have hln:=acL_len z e k
   have hstep:acL z e (k+1)=if actB (z k) e=true then acL z e k++[(k:Int)] else acL z e k:=rfl
   obtain ⟨b',hb'⟩:∃ b,actB (z k) e=b:=⟨_,rfl⟩
   rw [hb'] at hact hstep
   obtain ⟨V,hV⟩:∃ V,z k=V:=⟨_,rfl⟩
   rw [hV] at lv hact
   have HACT:=hid hact
   have HO:=hid ho
   have HW:=hid hw
   have HST:=hid hstep
   have sv:=svValidator_newv wr oValidator V
   obtain ⟨W1,hW1⟩:∃ W,wr.alloc (.cells (cel (sValidator V)) 74)=W:=⟨_,rfl⟩
   rw [hW1] at sv
   have r1:W1.heap[wr.heap.size]?=some (.cells (cel (sValidator V)) 74):=by rw [←hW1];exact heap_new rfl
   have hE1:Below wr.heap.size wr W1:=by rw [←hW1];exact (Below.refl _ _).alloc (Nat.le_refl _) _
   obtain ⟨y,ey⟩:∃ y,wr.heap.size=y:=⟨_,rfl⟩
   rw [ey] at sv r1
   have lw:=lvValidator_row r1
   have ho':=own_below HO.out hE1
   have hw':=HW.out.trans (hE1.mono HW.out.size)
   clear HO HW
   have HO:=hid ho'
   have HW:=hid hw'
   clear hact ho hw hstep hc hbl eP hb' hV ho' hw' hE1 r1
   go_upto_region 5 with fail
   clear sv lv ix c0 hW1 ey
   cases b'
   ·go_wp2_with (go_at_call 72;refine (HACT.out _).mono ?_;rintro e' w1 ⟨rfl,hb1⟩)
    have ho1:=own_below HO.out hb1
    have hw1:=HW.out.trans (hb1.mono HW.out.size)
    go_roundw
    case rel=>exact ⟨k+1,_,by omega,rfl,by go_num,by rw [HST.out];exact ho1,hw1⟩
    case measure=>simp [intOf];omega
   ·go_upto_region 6 with (go_at_call 72;refine (HACT.out _).mono ?_;rintro e' w1 ⟨rfl,hb1⟩)
    have ho1:=own_below HO.out hb1
    have hw1:=HW.out.trans (hb1.mono HW.out.size)
    have HO1:=hid ho1
    have HW1:=hid hw1
    clear ho1 hw1 hb1 HO HW lw
    go_wp2_with (at_builtin;(refine wpList_append_one w1 rfl _ _ rfl W0.heap.size v (acL z e k) (k:Int) rfl HO1.out rfl (by omega) HW1.out.size ?_);intro v2 w2 ho2 hg2)
    have hb2:=below_grown HW1.out HO1.out HW1.out.size hg2
    go_roundw
    case rel=>exact ⟨k+1,_,by omega,rfl,by go_num,by rw [HST.out];exact ho2,hb2⟩
    case measure=>simp [intOf];omega
  ·obtain rfl:k=n:=by omega
   have HW:=hid hw
   have HO:=hid ho
   clear hw ho
   go_wp2
   obtain ⟨a',C',rfl,hn⟩:=own_nml HO.out
   go_ret
   exact ⟨a',C',rfl,hn,HB.out.trans (HW.out.mono (by omega))⟩
end
section
open Go.RowKit
set_option linter.unusedVariables false
set_option linter.unusedSimpArgs false
set_option maxRecDepth 20000
attribute [local go_sem ↓] lvState_eq svState_eq bdState_eq lvValidator_eq svValidator_eq ixValidator_eq
set_option maxHeartbeats 1000000 in
theorem epochOf_any (x : VState) (w : World) (h0 : 0 ≤ x.f2) (h1 : x.f2 < 1099511627776) :
    Calls Tryz.prog 124 #[.agg (cel (sState x))] w fun e' w'=>e'=.returned (.int .u64 (x.f2 / 4))∧Below w.heap.size w w':=by
 obtain ⟨W0,hW0⟩:∃ W,w.alloc (.cells (cel (sState x)) 49)=W:=⟨_,rfl⟩
 have r0:W0.heap[w.heap.size]?=some (.cells (cel (sState x)) 49):=by rw [←hW0];exact heap_new rfl
 have hB0:Below w.heap.size w W0:=by rw [←hW0];exact (Below.refl _ _).alloc (Nat.le_refl _) _
 have l2:=cS2 r0
 generalize x.f2=p at *
 have HB:=hid hB0
 have HW:=hid hW0
 clear hB0 hW0 r0
 go_enter Tryz.func124,Tryz.ntmps124
 go_upto_region 1 with fail
 rw [HW.out]
 clear HW
 go_wp2
 go_ret
 exact ⟨ret_int rfl,HB.out⟩
set_option maxHeartbeats 2000000 in
theorem churn_any (x : VState) (w : World) (hx : Lk w x) :
    Calls Tryz.prog 119 #[.agg (cel (sState x))] w fun e' w'=>e'=.returned (.int .u64 (chuS x))∧Below w.heap.size w w':=by
 obtain ⟨W0,hW0⟩:∃ W,w.alloc (.cells (cel (sState x)) 49)=W:=⟨_,rfl⟩
 have r0:W0.heap[w.heap.size]?=some (.cells (cel (sState x)) 49):=by rw [←hW0];exact heap_new rfl
 have hB0:Below w.heap.size w W0:=by rw [←hW0];exact (Below.refl _ _).alloc (Nat.le_refl _) _
 have z0:w.heap.size < W0.heap.size:=(Array.getElem?_eq_some_iff.1 r0).1
 have hld:∀ W:World,Below W0.heap.size W0 W→(lvState ⟨w.heap.size,0,none⟩).run Tryz.prog W=.ok (.agg (cel (sState x))) W:=fun W h=>lvState_run ((h.block _ z0).trans r0)
 have hx0:=hx.below hB0
 have hep:=fun W:World=>epochOf_any x W hx.sl.1 hx.sl.2
 have hac:∀ W:World,Below W0.heap.size W0 W→Calls Tryz.prog 123 #[.agg (cel (sState x)),.int .u64 (x.f2 / 4)] W fun e' w'=>∃ a c,e'=.returned (.slice a (acS x).length c)∧Nml w' a (acS x)∧Below W.heap.size W w':=fun W h=>actives_any x (x.f2 / 4) W (hx0.below h)
 have hch:chuS x=if ((acS x).length:Int) / 32 < 2 then 2 else ((acS x).length:Int) / 32:=rfl
 have hlen:(acS x).length≤65536:=Nat.le_trans (acL_len _ _ _) hx.nb
 generalize chuS x=R at *
 generalize x.f2 / 4=E at *
 generalize (acS x)=L at *
 obtain ⟨n,hn⟩:∃ n,L.length=n:=⟨_,rfl⟩
 rw [hn] at hac hch hlen
 have nw:IntKind.u64.wrap (n:Int)=(n:Int):=by rw [IntKind.wrap_u64];omega
 have n0:(0:Int)≤(n:Int):=by omega
 have n1:(n:Int)≤65536:=by omega
 have n2:IntKind.u64.wrap ((n:Int) / 32)=(n:Int) / 32:=by rw [IntKind.wrap_u64];omega
 have n3:IntKind.u64.wrap ((n:Int).tdiv 32)=(n:Int) / 32:=by rw [Int.tdiv_eq_ediv_of_nonneg n0];exact n2
 have hdr:Below W0.heap.size W0 W0.drew:=(Below.refl _ _).drew
 have HDR:=hid hdr
 have HB:=hid hB0
 have HW:=hid hW0
 have HLD:=hid hld
 have HEP:=hid hep
 have HAC:=hid hac
 have HCH:=hid hch
 clear hdr hB0 hW0 hld hep hac hx hx0 r0 hch hn
 by_cases h2:(n:Int) / 32 < 2
 ·go_enter Tryz.func119,Tryz.ntmps119
  go_upto_region 1 with fail
  rw [HW.out]
  clear HW
  refine wp_region_noPanic ?_
  refine wp_region_held_drew (S:=fun W=>Below W0.heap.size W0 W) (by kernel_rfl) (HDR.out) (fun hHeld=>?_)
  refine tk 0 (v:=?v11) ?y11 hHeld ?r11
  case y11=>intro w hSw;have ld:=HLD.out _ hSw;go_simp;try with_reducible rfl
  refine tk 1 (v:=?v12) ?y12 hHeld ?r12
  case y12=>intro w hSw;have ld:=HLD.out _ hSw;go_simp;try with_reducible rfl
  try simp only [Act.put,z_1,z_2,z_3,z_4,z_5,z_6,z_7]
  refine wpAnyH_ready (rs:=[2]) (by kernel_rfl) (by simp) ?_
  refine AllReadyH.cons rfl (fun K hK=>?_) AllReadyH.nil
  go_simp
  refine (HEP.out _).mono ?_
  rintro e' w1 ⟨rfl,hb1⟩
  dsimp only
  have hB1:Below W0.heap.size W0 w1:=HDR.out.trans (hb1.mono HDR.out.size)
  refine hK.out _ _ (hB1) (fun hHeld=>?_)
  clear hK K
  try simp only [Act.put,z_1,z_2,z_3,z_4,z_5,z_6,z_7]
  refine wpAnyH_ready (rs:=[3]) (by kernel_rfl) (by simp) ?_
  refine AllReadyH.cons rfl (fun K hK=>?_) AllReadyH.nil
  go_simp
  refine (HAC.out _ hB1).mono ?_
  rintro e' w2 ⟨a2,c2,rfl,hn2,hb2⟩
  dsimp only
  have hB2:Below W0.heap.size W0 w2:=hB1.trans (hb2.mono hB1.size)
  refine hK.out _ _ (hB2) (fun hHeld=>?_)
  clear hK K
  try simp only [Act.put,z_1,z_2,z_3,z_4,z_5,z_6,z_7]
  refine tk 4 (v:=?v13) ?y13 hHeld ?r13
  case y13=>intro w hSw;go_simp;try with_reducible rfl
  try simp only [Act.put,z_1,z_2,z_3,z_4,z_5,z_6,z_7]
  refine wpAnyH_done (by kernel_rfl) ?_ _
  refine NoPanic.normal ?_
  go_wp2
  go_ret
  exact ⟨ret_int (by rw [HCH.out];split<;>omega),HB.out.trans (hB2.mono (by omega))⟩
 ·go_enter Tryz.func119,Tryz.ntmps119
  go_upto_region 1 with fail
  rw [HW.out]
  clear HW
  refine wp_region_noPanic ?_
  refine wp_region_held_drew (S:=fun W=>Below W0.heap.size W0 W) (by kernel_rfl) (HDR.out) (fun hHeld=>?_)
  refine tk 0 (v:=?v501) ?y501 hHeld ?r501
  case y501=>intro w hSw;have ld:=HLD.out _ hSw;go_simp;try with_reducible rfl
  refine tk 1 (v:=?v502) ?y502 hHeld ?r502
  case y502=>intro w hSw;have ld:=HLD.out _ hSw;go_simp;try with_reducible rfl
  try simp only [Act.put,z_1,z_2,z_3,z_4,z_5,z_6,z_7]
  refine wpAnyH_ready (rs:=[2]) (by kernel_rfl) (by simp) ?_
  refine AllReadyH.cons rfl (fun K hK=>?_) AllReadyH.nil
  go_simp
  refine (HEP.out _).mono ?_
  rintro e' w1 ⟨rfl,hb1⟩
  dsimp only
  have hB1:Below W0.heap.size W0 w1:=HDR.out.trans (hb1.mono HDR.out.size)
  refine hK.out _ _ (hB1) (fun hHeld=>?_)
  clear hK K
  try simp only [Act.put,z_1,z_2,z_3,z_4,z_5,z_6,z_7]
  refine wpAnyH_ready (rs:=[3]) (by kernel_rfl) (by simp) ?_
  refine AllReadyH.cons rfl (fun K hK=>?_) AllReadyH.nil
  go_simp
  refine (HAC.out _ hB1).mono ?_
  rintro e' w2 ⟨a2,c2,rfl,hn2,hb2⟩
  dsimp only
  have hB2:Below W0.heap.size W0 w2:=hB1.trans (hb2.mono hB1.size)
  refine hK.out _ _ (hB2) (fun hHeld=>?_)
  clear hK K
  try simp only [Act.put,z_1,z_2,z_3,z_4,z_5,z_6,z_7]
  refine tk 4 (v:=?v503) ?y503 hHeld ?r503
  case y503=>intro w hSw;go_simp;try with_reducible rfl
  try simp only [Act.put,z_1,z_2,z_3,z_4,z_5,z_6,z_7]
  refine wpAnyH_done (by kernel_rfl) ?_ _
  refine NoPanic.normal ?_
  go_wp2
  go_ret
  exact ⟨ret_int (by rw [HCH.out];split<;>omega),HB.out.trans (hB2.mono (by omega))⟩
end
section
open Go.RowKit Go.ChangeShapes Go.WideShapes
set_option linter.unusedVariables false
set_option linter.unusedSimpArgs false
def Holds1 {H:Type} (d:DataW H) (cap:Nat):Prop:=d=.nil∧cap=0∨∃ el sp,d=.slice el sp∧el.length+sp.length=cap
theorem holds_sized {H : Type} {ts : List TypeId} {ds : List (DataW H)} (h : (DataW.weightsEach Tryz.prog ts ds).all (· ≤ reachBytes) = true) {j : Nat} {t e : TypeId} {d : DataW H} {cap : Nat} (ht : ts[j]? = some t) (hd : ds[j]? = some d) (hu : Tryz.prog.underlying t = some (.slice e)) (hc : Holds1 d cap) :
    cap*Tryz.prog.bytesOf e≤140737488351232:=by
 rcases hc with ⟨_,rfl⟩ | ⟨el,sp,rfl,rfl⟩
 ·simp
 ·exact sized_slice h ht hd hu
theorem spot_none {w:World} {x:Addr} {v:Value} (h:w.cell? (x.add 0)=some v):∃ b off,x=⟨b,off,none⟩:=by
 obtain ⟨b,off,spot⟩:=x
 have hs:spot=none:=by
  have:=World.cell?_spot h
  simpa [Addr.add] using this
 subst hs
 exact ⟨b,off,rfl⟩
end
section
open Go.RowKit Go.ChangeShapes Go.WideShapes Go.Deep
set_option linter.unusedVariables false
set_option linter.unusedSimpArgs false
theorem open_blsZ {H : Type} {enc : TypeId × Value → H} {W : World} {base : Nat} {held : Bool} {a : Option Addr} {len cap : Nat} {d : DataW H} {ps : List MemPlace} (h : DataW.Trod enc Tryz.prog W base (fun _ => true) held 51 (.slice a len cap) d ps) :
    ∃ f,Z.Bls W a len cap f∧len≤cap∧Holds1 d cap:=by
 obtain ⟨fuel,hf⟩:=h
 rcases open_bools Tryz.underlying51 Tryz.underlying4 (by kernel_rfl) hf with ⟨hcs,hx⟩ | ⟨x,l,c,B,hcs,_,hl,hm,hx,hcell⟩
 ·simp [Value.cells] at hcs
  obtain ⟨rfl,rfl,rfl⟩:=hcs
  simp only [Prod.mk.injEq] at hx
  exact ⟨fun _=>false,.inl ⟨rfl,rfl,rfl⟩,Nat.le_refl _,.inl ⟨hx.1,rfl⟩⟩
 ·simp [Value.cells] at hcs
  obtain ⟨rfl,rfl,rfl⟩:=hcs
  simp only [Prod.mk.injEq] at hx
  refine ⟨B,?_,hl,.inr ⟨_,_,hx.1,by simp;omega⟩⟩
  by_cases h0:len=0
  ·exact .inr (.inl ⟨x,rfl,h0⟩)
  ·obtain ⟨b,off,rfl⟩:=spot_none (hcell 0 (by omega))
   unfold maxLen at hm
   refine .inr (.inr ⟨b,off,rfl,hl,by omega,World.block_lt_of_cell? W _ (hcell 0 (by omega)),fun j hj=>?_⟩)
   have:=hcell j (by omega)
   rw [addr_add] at this
   exact this
end
end Go.Proofs.YtfgmddnfhphdeaaGreatDoor
