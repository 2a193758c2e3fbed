/- A part. -/
import Derived.Test.YtdamhdnljnifcaaGreatDoorQC
import Derived.Test.YtdamhdnljnifcaaGreatDoorQD
import Derived.Test.YtdamhdnljnifcaaGreatDoorQE
namespace Go.Proofs.YtdamhdnljnifcaaGreatDoor
open Go.RowKit
set_option linter.unusedVariables false
set_option linter.unusedSimpArgs false
section
open Go.RowKit
set_option linter.unusedVariables false
set_option linter.unusedSimpArgs false
set_option maxRecDepth 20000
attribute [local go_sem ↓] sv24_eq lv24_eq ix22_eq sv8_eq
def eB (K:Nat) (g:Nat→Nat→Int) (q:Nat):Int:=g (q / K) (q % K)
theorem bl_two (f:Nat→Int) (n k:Nat):bl f n++bl (fun q=>f (n+q)) k=bl f (n+k):=by
 unfold bl
 rw [List.range_add,List.map_append,List.map_map]
 rfl
theorem bl_each (K:Nat) (hK:0 < K) (g:Nat→Nat→Int) (k:Nat):bl (eB K g) (K*k)++bl (g k) K=bl (eB K g) (K*(k+1)):=by
 have h:bl (g k) K=bl (fun q=>eB K g (K*k+q)) K:=bl_congr fun i hi=>by
  show g k i=g ((K*k+i) / K) ((K*k+i) % K)
  rw [Nat.mul_add_div hK,Nat.div_eq_of_lt hi,Nat.add_zero,Nat.mul_add_mod,Nat.mod_eq_of_lt hi]
 rw [h,bl_two,Nat.mul_add,Nat.mul_one]
def ixEth1 (x i:Value):Sem Value:=Instr.indexAt 35 x i
theorem ixEth1_eq (x i:Value):Instr.indexAt 35 x i=ixEth1 x i:=rfl
theorem sizeEth1 (w:World):(sizeOf 34).run Tryz.prog w=.ok 65 w:=by
 have hi:(Tryz.prog.info? 34).map (·.size)=some 65:=by kernel_rfl
 cases hq:Tryz.prog.info? 34 with
 | none => simp [hq] at hi
 | some i => simp [hq] at hi; simp [sizeOf, typeInfo, hq, hi]
theorem ixEth1_run (w:World) (b off len cap i:Nat) (h:i < len):(ixEth1 (.slice (some ⟨b,off,none⟩) len cap) (.int .i64 i)).run Tryz.prog w=.ok (.pointer (some ⟨b,off+65*i,none⟩)) w:=by
 unfold ixEth1 Instr.indexAt
 have h1:(0:Int)≤(i:Int)∧(i:Int) < (len:Int):=by omega
 simp only [asIntOf,Sem.run_bind,Sem.run_pure,Result.andThen_ok,run_underlying Tryz.underlying35,if_pos h1,sizeEth1,Addr.add_mid,Int.toNat_natCast]
 rw [Nat.mul_comm]
theorem lvEth1_at {w:World} {g o:Nat} {x:VEth1} (h:w.rangeAt g o (celL (sEth1 x))):(lvEth1 ⟨g,o,none⟩).run Tryz.prog w=.ok (.agg (cel (sEth1 x))) w :=
 loadAt_var (run_loadAt_mid w g o 34 _ _ h Tryz.underlying34 rfl (by rw [celL_len,show slen (sEth1 x)=65 from rfl];kernel_rfl))
attribute [local go_sem ↓] lvEth1_eq svEth1_eq ixEth1_eq
def ixValidator (x i:Value):Sem Value:=Instr.indexAt 36 x i
theorem ixValidator_eq (x i:Value):Instr.indexAt 36 x i=ixValidator x i:=rfl
theorem sizeValidator (w:World):(sizeOf 75).run Tryz.prog w=.ok 86 w:=by
 have hi:(Tryz.prog.info? 75).map (·.size)=some 86:=by kernel_rfl
 cases hq:Tryz.prog.info? 75 with
 | none => simp [hq] at hi
 | some i => simp [hq] at hi; simp [sizeOf, typeInfo, hq, hi]
theorem ixValidator_run (w:World) (b off len cap i:Nat) (h:i < len):(ixValidator (.slice (some ⟨b,off,none⟩) len cap) (.int .i64 i)).run Tryz.prog w=.ok (.pointer (some ⟨b,off+86*i,none⟩)) w:=by
 unfold ixValidator Instr.indexAt
 have h1:(0:Int)≤(i:Int)∧(i:Int) < (len:Int):=by omega
 simp only [asIntOf,Sem.run_bind,Sem.run_pure,Result.andThen_ok,run_underlying Tryz.underlying36,if_pos h1,sizeValidator,Addr.add_mid,Int.toNat_natCast]
 rw [Nat.mul_comm]
theorem lvValidator_at {w:World} {g o:Nat} {x:VValidator} (h:w.rangeAt g o (celL (sValidator x))):(lvValidator ⟨g,o,none⟩).run Tryz.prog w=.ok (.agg (cel (sValidator x))) w :=
 loadAt_var (run_loadAt_mid w g o 75 _ _ h Tryz.underlying75 rfl (by rw [celL_len,show slen (sValidator x)=86 from rfl];kernel_rfl))
attribute [local go_sem ↓] lvValidator_eq svValidator_eq ixValidator_eq
end
section
open Go.RowKit
set_option linter.unusedVariables false
set_option linter.unusedSimpArgs false
set_option maxRecDepth 20000
def zS (r:Nat):Int:=[8,32,8,16,112,256,256,0,72,0,8,0,0,256,64,0,0,1,40,40,40,0,432,432].getD r 0
def qS (x:VState):List (Nat × (Nat→Int)):=[(8,nmB x.f0),(32,x.f1),(8,nmB x.f2),(16,ct7 (eFork x.f3)),(112,ct7 (eHeader x.f4)),(256,x.f5),(256,x.f6),(32*x.f7.n,x.f7.z),(72,ct7 (eEth1 x.f8)),(72*x.f9.n,eB 72 fun i=>ct7 (eEth1 (x.f9.z i))),(8,nmB x.f10),(121*x.f11.n,eB 121 fun i=>ct7 (eValidator (x.f11.z i))),(8*x.f12.n,eB 8 fun i=>nmB (x.f12.z i)),(256,x.f13),(64,eB 8 fun i=>nmB (x.f14 i)),(x.f15.n,x.f15.z),(x.f16.n,x.f16.z),(1,fun q=>(Z.byt x.f17 4 q:Int)),(40,ct7 (eCheckpoint x.f18)),(40,ct7 (eCheckpoint x.f19)),(40,ct7 (eCheckpoint x.f20)),(8*x.f21.n,eB 8 fun i=>nmB (x.f21.z i)),(432,ct7 (eCommittee x.f22)),(432,ct7 (eCommittee x.f23))]
def nilQ:Nat × (Nat→Int):=(0,fun _=>0)
def pL (x:VState) (r:Nat):Nat:=((qS x).getD r nilQ).1
def pF (x:VState) (r:Nat):Nat→Int:=((qS x).getD r nilQ).2
def tL (x:VState):Nat:=Z.hdL zS 24+Z.loL zS (pL x) 24
theorem tL_is (x:VState):tL x=2101+32*x.f7.n+72*x.f9.n+121*x.f11.n+8*x.f12.n+x.f15.n+x.f16.n+8*x.f21.n:=by
 show 2101+(0+0+0+0+0+0+0+0+32*x.f7.n+0+72*x.f9.n+0+121*x.f11.n+8*x.f12.n+0+0+x.f15.n+x.f16.n+0+0+0+0+8*x.f21.n+0+0)=_
 omega
theorem bsP_24 (W:World) (p0 p1 p2 p3 p4 p5 p6 p7 p8 p9 p10 p11 p12 p13 p14 p15 p16 p17 p18 p19 p20 p21 p22 p23:Pt):(bsP 24 #[(0,ptv p0),(1,ptv p1),(2,ptv p2),(3,ptv p3),(4,ptv p4),(5,ptv p5),(6,ptv p6),(7,ptv p7),(8,ptv p8),(9,ptv p9),(10,ptv p10),(11,ptv p11),(12,ptv p12),(13,ptv p13),(14,ptv p14),(15,ptv p15),(16,ptv p16),(17,ptv p17),(18,ptv p18),(19,ptv p19),(20,ptv p20),(21,ptv p21),(22,ptv p22),(23,ptv p23)]).run Tryz.prog W=.ok (.slice (some ⟨W.heap.size,0,none⟩) 24 24) (W.alloc (.cells ([p0,p1,p2,p3,p4,p5,p6,p7,p8,p9,p10,p11,p12,p13,p14,p15,p16,p17,p18,p19,p20,p21,p22,p23].map ptv).toArray 39)):=by kernel_rfl
attribute [local go_sem ↓] bsP_eq bsI_eq
theorem getD_ptb (ps:List Pt) (r:Nat):(ps.map ptb).getD r nilQ=ptb (ps.getD r nilP):=by
 rw [List.getD_eq_getElem?_getD,List.getD_eq_getElem?_getD,List.getElem?_map]
 cases ps[r]?<;>rfl
theorem seg_na {w:World} {g:Nat} {t:TypeId} {x:VState} (h:w.heap[g]?=some (.cells (cel (sState x)) t)):Z.Nms .u64 w (some ⟨g,979,none⟩) 8 x.f14 :=
 .inr ⟨g,979,rfl,(Array.getElem?_eq_some_iff.1 h).1,fun j hj=>by
  rcases (by omega:j=0∨j=1∨j=2∨j=3∨j=4∨j=5∨j=6∨j=7) with rfl | rfl | rfl | rfl | rfl | rfl | rfl | rfl
  ·exact cS14_0 h
  ·exact cS14_1 h
  ·exact cS14_2 h
  ·exact cS14_3 h
  ·exact cS14_4 h
  ·exact cS14_5 h
  ·exact cS14_6 h
  ·exact cS14_7 h⟩
theorem seg_bits {w:World} {g:Nat} {t:TypeId} {x:VState} (h:w.heap[g]?=some (.cells (cel (sState x)) t)):Z.Bls w (some ⟨g,989,none⟩) 4 4 x.f17 :=
 .inr (.inr ⟨g,989,rfl,Nat.le_refl _,by omega,(Array.getElem?_eq_some_iff.1 h).1,fun j hj=>by
  rcases (by omega:j=0∨j=1∨j=2∨j=3) with rfl | rfl | rfl | rfl
  ·exact cS17_0 h
  ·exact cS17_1 h
  ·exact cS17_2 h
  ·exact cS17_3 h⟩)
attribute [local go_sem ↓] bsP_eq bsI_eq lvState_eq svState_eq lvFork_eq lvHeader_eq lvEth1_eq lvCheckpoint_eq lvCommittee_eq
end
section
open Go.RowKit
set_option linter.unusedVariables false
set_option linter.unusedSimpArgs false
set_option maxRecDepth 20000
theorem info_out {P:Program} {t:TypeId} {z:Value} {s b:Nat} (h:(P.info? t).map (fun i=>(i.zero,i.size,i.bytes))=some (some z,s,b)):∃ i,P.info? t=some i∧i.zero=some z∧i.size=s∧i.bytes=b:=by
 cases hq:P.info? t with
 | none => simp [hq] at h
 | some i => simp [hq] at h; exact ⟨i, rfl, h.1, h.2.1, h.2.2⟩
attribute [local go_sem ↓] ix22_eq sl22_eq
def ixU (x i:Value):Sem Value:=Instr.indexAt 37 x i
theorem ixU_eq (x i:Value):Instr.indexAt 37 x i=ixU x i:=rfl
theorem size_u64 (w:World):(sizeOf 22).run Tryz.prog w=.ok 1 w:=by
 obtain ⟨i,hi,_,hs,_⟩:=info_out (P:=Tryz.prog) (t:=22) (z:=.int .u64 0) (s:=1) (b:=8) (by kernel_rfl)
 simp [sizeOf,typeInfo,hi,hs]
theorem ixU_run (w:World) (b off len cap i:Nat) (h:i < len):(ixU (.slice (some ⟨b,off,none⟩) len cap) (.int .i64 i)).run Tryz.prog w=.ok (.pointer (some ⟨b,off+i,none⟩)) w:=by
 unfold ixU Instr.indexAt
 have h1:(0:Int)≤(i:Int)∧(i:Int) < (len:Int):=by omega
 simp only [asIntOf,Sem.run_bind,Sem.run_pure,Result.andThen_ok,run_underlying Tryz.underlying37,if_pos h1,size_u64,Addr.add_mid,Int.toNat_natCast,Nat.mul_one]
attribute [local go_sem ↓] ixU_eq
end
section
open Go.RowKit
set_option linter.unusedVariables false
set_option linter.unusedSimpArgs false
set_option maxRecDepth 20000
def oState:VState:=⟨0,fun _=>0,0,oFork,oHeader,fun _=>0,fun _=>0,⟨none,0,0,fun _=>0⟩,oEth1,⟨none,0,0,fun _=>oEth1⟩,0,⟨none,0,0,fun _=>oValidator⟩,⟨none,0,0,fun _=>0⟩,fun _=>0,fun _=>0,⟨none,0,0,fun _=>0⟩,⟨none,0,0,fun _=>0⟩,fun _=>false,oCheckpoint,oCheckpoint,oCheckpoint,⟨none,0,0,fun _=>0⟩,oCommittee,oCommittee⟩
theorem zeroState (W:World):(zeroValue 49).run Tryz.prog W=.ok (.agg (cel (sState oState))) W:=by kernel_rfl
theorem bdState_0 (W:World):(bdState #[]).run Tryz.prog W=.ok (.agg (cel (sState oState))) W:=by kernel_rfl
def RI (w:World) (r y:Nat) (x:VState) (X:World):Prop:=Below w.heap.size w X∧X.heap[r]?=some (.cells (cel (sState oState)) 49)∧X.heap[y]?=some (.cells (cel (sState x)) 49)
theorem some_lt {X:World} {r:Nat} {o:Obj} (h:X.heap[r]?=some o):r < X.heap.size:=(Array.getElem?_eq_some_iff.1 h).1
theorem some_cell {X:World} {y i:Nat} {x:VState} (h:X.heap[y]?=some (.cells (cel (sState x)) 49)) (hi:i < 1957):∃ v,X.cell? ⟨y,i,none⟩=some v:=⟨_,(row_cell h i).trans (Array.getElem?_eq_getElem (by rw [cel_size,slState];exact hi))⟩
theorem RI.below {w X X':World} {r y:Nat} {x:VState} (h:RI w r y x X) (hb:Below X.heap.size X X'):RI w r y x X' :=
 ⟨h.1.trans (hb.mono h.1.size),(hb.block r (some_lt h.2.1)).trans h.2.1,(hb.block y (some_lt h.2.2)).trans h.2.2⟩
theorem RI.kept {w X X':World} {r y:Nat} {x x':VState} (h:RI w r y x X) (hr:r≠y) (hy:w.heap.size≤y) (hk:Kept y X X') (hn:X'.heap[y]?=some (.cells (cel (sState x')) 49)):RI w r y x' X' :=
 ⟨h.1.trans (hk.below hy h.1.size),(hk.block r (some_lt h.2.1) hr).trans h.2.1,hn⟩
theorem RI.set {w X:World} {r y:Nat} {x x':VState} (h:RI w r y x X) (hr:r≠y) (hy:w.heap.size≤y) (i:Nat) (v:Value) (he:(cel (sState x)).setIfInBounds i v=cel (sState x')):RI w r y x' (X.setCell ⟨y,i,none⟩ v) :=
 h.kept hr hy ((Kept.refl y X).setCell i v) ((row_set h.2.2 i v).trans (congrArg (fun c=>some (Obj.cells c 49)) he))
theorem RI.row {w X:World} {r y:Nat} {x x':VState} (h:RI w r y x X) (hr:r≠y) (hy:w.heap.size≤y):RI w r y x' (X.setRow y (cel (sState x'))) :=
 h.kept hr hy ((Kept.refl y X).setRow _) (setRow_at h.2.2)
attribute [local go_sem ↓] lvState_eq svState_eq bdState_eq ixP_eq
structure P0 (L:Nat→Nat) (f:Nat→Nat→Int):Prop where
 l0:L 0=8
 l1:L 1=32
 l2:L 2=8
 l3:L 3=16
 l4:L 4=112
 l5:L 5=256
 l6:L 6=256
 l7:L 7=0
 l8:L 8=72
 l9:L 9=0
 l10:L 10=8
 l11:L 11=0
 l12:L 12=0
 l13:L 13=256
 l14:L 14=64
 l15:L 15=0
 l16:L 16=0
 l17:L 17=1
 l18:L 18=40
 l19:L 19=40
 l20:L 20=40
 l21:L 21=0
 l22:L 22=432
 l23:L 23=432
 fb:∀ r q,0≤f r q∧f r q < 256
 b17:f 17 0 < 16
end
section
open Go.RowKit
set_option linter.unusedVariables false
set_option linter.unusedSimpArgs false
set_option maxRecDepth 20000
def Src (w:World) (k:Nat) (a:Option Addr) (n c:Nat) (news:List Value):Prop :=
 (a=none→n=0∧c=0)∧news.length=n*k∧(∀ u ∈ news,u.oneCell'=true)∧(n=0∨∃ b off,a=some ⟨b,off,none⟩∧b < w.heap.size∧w.rangeAt b off news)
theorem Src.below {w w':World} {k:Nat} {a:Option Addr} {n c:Nat} {news:List Value} (h:Src w k a n c news) (hb:Below w.heap.size w w'):Src w' k a n c news:=by
 refine ⟨h.1,h.2.1,h.2.2.1,?_⟩
 rcases h.2.2.2 with h0 | ⟨b,off,e,hl,hr⟩
 ·exact .inl h0
 ·exact .inr ⟨b,off,e,Nat.lt_of_lt_of_le hl hb.size,rangeAt_below hr hl hb⟩
theorem app_src {P : Program} (w : World) {ops : Array Oper} {rest : List Oper} {o : Oper} {a : Act} {Q : Exit → Act → World → Prop} (hgd : o.guard = none) (s x : Operand) (t : TypeId)
    (ho:o.op=.call { callee:=.builtin .append,args:=#[s,x],argTypes:=#[t,t] })
    (base:Nat) (e:TypeId) (i:TypeInfo) (z:Value) (size bytes:Nat) (ht:P.underlying t=some (.slice e)) (hi:P.info? e=some i) (hz:i.zero=some z)
    (hsize:i.size=size) (hby:i.bytes=bytes) (hzs:z.cells.size=size) (hsz:0 < size)
    (v:Value) (n:Nat) (xs:List Value) (hs:a.eval s=v) (hown:w.ownsRow base e size v n xs)
    (ao:Option Addr) (len cap:Nat) (news:List Value) (hx:a.eval x=.slice ao len cap) (hsrc:Src w size ao len cap news)
    (h63:n+len≤maxLen) (hbytes:(n+len)*bytes≤140737488355328) (hbase:base≤w.heap.size)
    (h:∀ v' w',w'.ownsRow base e size v' (n+len) (xs++news)→w.grownBy w' v.ownBlock→wpList P ops Q rest (a.put o.dst v') w'):wpList P ops Q (o :: rest) a w:=by
 obtain ⟨h1,h2,h3,h4⟩:=hsrc
 cases ao with
 | none =>
  obtain ⟨rfl,rfl⟩:=h1 rfl
  obtain rfl:news=[]:=List.length_eq_zero_iff.1 (by rw [h2,Nat.zero_mul])
  refine wpList_append_own_none hgd s x t ho base e i size ht hi v n xs hs hown hx (h v w ?_ ⟨rfl,rfl,rfl,Nat.le_refl _,fun _ _ _=>rfl⟩)
  rw [Nat.add_zero,List.append_nil]
  exact hown
 | some ad =>
  refine wpList_append_own w hgd s x t ho base e i z size bytes ht hi hz hsize hby hzs hsz v n xs hs hown ad len cap news hx h2 (fun j u hj=>?_) h3 h63 hbytes hbase (fun v' w' g1 g2 _=>h v' w' g1 g2)
  rcases h4 with rfl | ⟨b,off,e',_,hr⟩
  ·have:=(List.getElem?_eq_some_iff.1 hj).1
   rw [h2,Nat.zero_mul] at this
   omega
  ·cases e'
   rw [addr_add]
   exact hr j u hj
theorem grown_new {B s:Nat} {w w':World} {v:Value} {n:Nat} {xs:List Value} {e:TypeId} (hb:Below B w w) (ho:(w.alloc (.cells #[] e)).ownsRow w.heap.size e s v n xs) (hg:(w.alloc (.cells #[] e)).grownBy w' v.ownBlock):Below w.heap.size w w' :=
 ⟨hg.os,hg.tape,hg.output,Nat.le_trans (by simp) hg.size,fun k hk=>(hg.block k (by simp;omega) (fun e=>by have:=(ho.lt k e.symm).1;omega)).trans (heap_old hk)⟩
theorem owns_form {w:World} {B:Nat} {e:TypeId} {k:Nat} {v:Value} {n:Nat} {xs:List Value} (h:w.ownsRow B e k v n xs):∃ a c,v=.slice a n c:=by
 rcases h.2 with ⟨rfl,rfl⟩ | ⟨g,cap,cur,rfl,_⟩
 ·exact ⟨none,0,rfl⟩
 ·exact ⟨_,cap,rfl⟩
def flat (e:Nat→List Value):Nat→List Value
 | 0 => []
 | n + 1 => flat e n ++ e n
theorem flat_len {e:Nat→List Value} {k:Nat} (h:∀ i,(e i).length=k):∀ n,(flat e n).length=n*k
 | 0 => by simp [flat]
 | n + 1 => by
  show (flat e n++e n).length=_
  rw [List.length_append,flat_len h n,h n,Nat.succ_mul]
theorem flat_at {e:Nat→List Value} {k:Nat} (h:∀ i,(e i).length=k) (i j:Nat) (hj:j < k):∀ n,i < n→(flat e n)[i*k+j]?=(e i)[j]?
 | 0, hi => absurd hi (Nat.not_lt_zero _)
 | n + 1, hi => by
  show (flat e n++e n)[i*k+j]?=_
  by_cases hn:i < n
  ·rw [List.getElem?_append_left (by rw [flat_len h n];have:(i+1)*k≤n*k:=Nat.mul_le_mul_right k hn;rw [Nat.succ_mul] at this;omega),flat_at h i j hj n hn]
  ·obtain rfl:i=n:=by omega
   rw [List.getElem?_append_right (by rw [flat_len h];omega),flat_len h,Nat.add_sub_cancel_left]
theorem flat_one {e:Nat→List Value} (h:∀ i,∀ u ∈ e i,u.oneCell'=true):∀ n,∀ u ∈ flat e n,u.oneCell'=true
 | 0, u, hu => by cases hu
 | n + 1, u, hu => by
  rcases List.mem_append.1 (show u ∈ flat e n++e n from hu) with h1 | h1
  ·exact flat_one h n u h1
  ·exact h n u h1
def nl (z:Nat→Int) (n:Nat):List Value:=(List.range n).map fun i=>Value.int .u64 (z i)
theorem nl_len (z:Nat→Int) (n:Nat):(nl z n).length=n:=by simp [nl]
theorem nl_at (z:Nat→Int) (n j:Nat) (hj:j < n):(nl z n)[j]?=some (.int .u64 (z j)):=by simp [nl,List.getElem?_range hj]
theorem nl_get (z:Nat→Int) (n j:Nat) (u:Value) (h:(nl z n)[j]?=some u):j < n∧u=.int .u64 (z j):=by
 have hj:j < n:=by have:=(List.getElem?_eq_some_iff.1 h).1;rwa [nl_len] at this
 rw [nl_at z n j hj] at h
 exact ⟨hj,(Option.some.inj h).symm⟩
theorem nl_one (z:Nat→Int) (n:Nat):∀ u ∈ nl z n,u.oneCell'=true:=fun u hu=>by
 obtain ⟨i,_,rfl⟩:=List.mem_map.1 hu
 rfl
theorem src_rts {w:World} {a:Option Addr} {n c:Nat} {f:Nat→Int} (h:Rts w a n c f):Src w 32 a n c (bl f (32*n)):=by
 refine ⟨fun ha=>?_,by rw [bl_len,Nat.mul_comm],bl_one _ _,?_⟩
 ·rcases h with ⟨_,h1,h2⟩ | ⟨_,h1,_⟩ | ⟨_,_,h1,_⟩
  ·exact ⟨h1,h2⟩
  ·rw [ha] at h1
   cases h1
  ·rw [ha] at h1
   cases h1
 ·rcases h with ⟨_,h1,_⟩ | ⟨_,_,h1⟩ | ⟨b,off,h1,_,h2,h3⟩
  ·exact .inl h1
  ·exact .inl h1
  ·exact .inr ⟨b,off,h1,h2,fun j u hj=>by
    obtain ⟨k1,rfl⟩:=bl_get f (32*n) j u hj
    exact h3 j k1⟩
theorem src_bys {w:World} {a:Option Addr} {n c:Nat} {f:Nat→Int} (h:Bys w a n c f):Src w 1 a n c (bl f n):=by
 refine ⟨fun ha=>?_,by rw [bl_len,Nat.mul_one],bl_one _ _,?_⟩
 ·rcases h with ⟨_,h1,h2⟩ | ⟨_,h1,_⟩ | ⟨_,_,h1,_⟩
  ·exact ⟨h1,h2⟩
  ·rw [ha] at h1
   cases h1
  ·rw [ha] at h1
   cases h1
 ·rcases h with ⟨_,h1,_⟩ | ⟨_,_,h1⟩ | ⟨b,off,h1,_,_,h2,h3⟩
  ·exact .inl h1
  ·exact .inl h1
  ·exact .inr ⟨b,off,h1,h2,fun j u hj=>by
    obtain ⟨k1,rfl⟩:=bl_get f n j u hj
    exact h3 j k1⟩
theorem src_nms {w:World} {a:Option Addr} {n c:Nat} {f:Nat→Int} (h:Z.Nms .u64 w a n f) (hn:a=none→n=0∧c=0):Src w 1 a n c (nl f n):=by
 refine ⟨hn,by rw [nl_len,Nat.mul_one],nl_one _ _,?_⟩
 rcases h with h1 | ⟨b,off,h1,h2,h3⟩
 ·exact .inl h1
 ·exact .inr ⟨b,off,h1,h2,fun j u hj=>by
   obtain ⟨k1,rfl⟩:=nl_get f n j u hj
   exact h3 j k1⟩
theorem src_els {w:World} {a:Option Addr} {n c k:Nat} {e:Nat→List Value} (h:Els w a n k e) (hn:a=none→n=0∧c=0) (hk:∀ i,(e i).length=k) (h1:∀ i,∀ u ∈ e i,u.oneCell'=true):Src w k a n c (flat e n):=by
 refine ⟨hn,flat_len hk n,flat_one h1 n,?_⟩
 rcases h with h0 | ⟨b,off,e1,h2,h3⟩
 ·exact .inl h0
 ·refine .inr ⟨b,off,e1,h2,fun j u hj=>?_⟩
  have hlt:j < n*k:=by have:=(List.getElem?_eq_some_iff.1 hj).1;rwa [flat_len hk] at this
  have hkp:0 < k:=by
   rcases Nat.eq_zero_or_pos k with h0 | h0
   ·rw [h0,Nat.mul_zero] at hlt
    omega
   ·exact h0
  have hi:j / k < n:=Nat.div_lt_of_lt_mul (by rw [Nat.mul_comm];exact hlt)
  have hm:=Nat.mod_lt j hkp
  have ej:j=j / k*k+j % k:=by rw [Nat.mul_comm];exact (Nat.div_add_mod j k).symm
  rw [ej,flat_at hk _ _ hm n hi] at hj
  have:=h3 (j / k) hi (j % k) u hj
  rw [show off+k*(j / k)+j % k=off+j by rw [Nat.add_assoc,Nat.div_add_mod]] at this
  exact this
theorem own_range {w:World} {B:Nat} {e:TypeId} {k:Nat} {a:Option Addr} {n c:Nat} {xs:List Value} (h:w.ownsRow B e k (.slice a n c) n xs):n=0∨∃ g,a=some ⟨g,0,none⟩∧B≤g∧g < w.heap.size∧w.rangeAt g 0 xs:=by
 rcases h.2 with ⟨_,h0⟩ | ⟨g,cap,cur,hv,hB,hg,_,_,hs,ht⟩
 ·exact .inl h0
 ·cases hv
  refine .inr ⟨g,rfl,hB,some_lt hg,fun j u hj=>?_⟩
  rw [Nat.zero_add,row_cell hg,←hj,←ht]
  have hlt:=(List.getElem?_eq_some_iff.1 hj).1
  rw [h.1] at hlt
  rw [List.getElem?_take_of_lt hlt,Array.getElem?_toList]
theorem own_nms {w:World} {B:Nat} {a:Option Addr} {n c:Nat} {z:Nat→Int} (h:w.ownsRow B 22 1 (.slice a n c) n (nl z n)):Z.Nms .u64 w a n z:=by
 rcases own_range h with h0 | ⟨g,e,_,hg,hr⟩
 ·exact .inl h0
 ·exact .inr ⟨g,0,e,hg,fun j hj=>hr j _ (nl_at z n j hj)⟩
theorem own_els {w:World} {B k:Nat} {t:TypeId} {a:Option Addr} {n c:Nat} {e:Nat→List Value} (h:w.ownsRow B t k (.slice a n c) n (flat e n)) (hk:∀ i,(e i).length=k):Els w a n k e:=by
 rcases own_range h with h0 | ⟨g,e1,_,hg,hr⟩
 ·exact .inl h0
 ·refine .inr ⟨g,0,e1,hg,fun i hi j u hj=>?_⟩
  have hlt:j < k:=by have:=(List.getElem?_eq_some_iff.1 hj).1;rwa [hk i] at this
  have:=hr (i*k+j) u (by rw [flat_at hk i j hlt n hi];exact hj)
  rw [Nat.mul_comm i k] at this
  rw [Nat.zero_add] at this ⊢
  exact this
theorem owns_keptY {w w':World} {B k y:Nat} {t:TypeId} {v:Value} {n:Nat} {xs:List Value} (h:w.ownsRow B t k v n xs) (hk:Kept y w w') (hy:y < B):w'.ownsRow B t k v n xs:=by
 refine ⟨h.1,?_⟩
 rcases h.2 with h1 | ⟨g,cap,cur,h1,h2,h3,h4⟩
 ·exact .inl h1
 ·exact .inr ⟨g,cap,cur,h1,h2,(hk.block g (some_lt h3) (by omega)).trans h3,h4⟩
structure NilW (x:VState):Prop where
 n9:x.f9.a=none→x.f9.n=0∧x.f9.c=0
 n11:x.f11.a=none→x.f11.n=0∧x.f11.c=0
 n12:x.f12.a=none→x.f12.n=0∧x.f12.c=0
 n21:x.f21.a=none→x.f21.n=0∧x.f21.c=0
attribute [local go_sem ↓] lvState_eq svState_eq
theorem retState1 {fn : Func} {R : Ending → World → Prop} {a : Act} {w' : World} (t : Tmp) (b : Nat) (c : VState) (ty : TypeId) (h : fn.results = #[.cell t 49]) (hd : a.defers = []) (ht : a.tmps.getD t undef = .pointer (some ⟨b, 0, none⟩)) (hr : w'.heap[b]? = some (.cells (cel (sState c)) ty))
    (hR:R (.returned (.agg (cel (sState c)))) w'):bodyPost Tryz.prog fn R .ret a w' :=
 bodyPost_ret (results_cell h a.tmps _ b _ ht (load_row hr 49 _ Tryz.underlying49 rfl (by rw [cel_size,slState];kernel_rfl))) hd hR
end
end Go.Proofs.YtdamhdnljnifcaaGreatDoor
