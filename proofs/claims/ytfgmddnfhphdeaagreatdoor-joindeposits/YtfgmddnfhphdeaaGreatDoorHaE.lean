/- A part. -/
import Derived.Test.YtfgmddnfhphdeaaGreatDoorHaC
import Derived.Test.YtfgmddnfhphdeaaGreatDoorHaD
import Derived.Maps.AppendAt
import Derived.WalkKit
import Derived.Laws.AppendOwnNone
import Derived.Deep.RegionHeld3
namespace Go.Proofs.YtfgmddnfhphdeaaGreatDoor
open Go.RowKit
set_option linter.unusedVariables false
set_option linter.unusedSimpArgs false
section
open Go.RowKit
set_option linter.unusedVariables false
def pl (m:Nat→Int) (len n:Nat):List Value:=(List.range n).map fun i=>Value.int .u8 (padM m len i)
theorem info8:(Tryz.prog.info? 5).map (fun i=>(i.zero,i.size,i.bytes))=some (some (.int .u8 0),1,1):=by kernel_rfl
end
section
open Go.RowKit
set_option linter.unusedVariables false
def Bys (w:World) (a:Option Addr) (len cap:Nat) (m:Nat→Int):Prop :=
 (a=none∧len=0∧cap=0)∨(∃ x,a=some x∧len=0)∨∃ b off,a=some ⟨b,off,none⟩∧len≤cap∧cap≤9223372036854775807∧b < w.heap.size∧∀ j,j < len→w.cell? ⟨b,off+j,none⟩=some (.int .u8 (m j))
def bl (m:Nat→Int) (n:Nat):List Value:=(List.range n).map fun i=>Value.int .u8 (m i)
theorem bl_len (m:Nat→Int) (n:Nat):(bl m n).length=n:=by simp [bl]
theorem bl_one (m:Nat→Int) (n:Nat):∀ u ∈ bl m n,u.oneCell'=true:=by
 intro u hu
 obtain ⟨i,_,rfl⟩:=List.mem_map.1 hu
 rfl
theorem bl_get (m:Nat→Int) (n j:Nat) (u:Value) (h:(bl m n)[j]?=some u):j < n∧u=.int .u8 (m j):=by
 have hj:=(List.getElem?_eq_some_iff.1 h).1
 rw [bl_len] at hj
 refine ⟨hj,?_⟩
 unfold bl at h
 rw [List.getElem?_map,List.getElem?_range hj] at h
 simpa using h.symm
theorem bl_at (m:Nat→Int) (n j:Nat) (hj:j < n):(bl m n)[j]?=some (.int .u8 (m j)):=by
 unfold bl
 rw [List.getElem?_map,List.getElem?_range hj]
 rfl
theorem bl_snoc (m:Nat→Int) (n:Nat) (v:Int) (hv:v=m n):bl m n++[.int .u8 v]=bl m (n+1):=by
 unfold bl
 rw [List.range_succ,List.map_append,hv]
 rfl
theorem bl_congr {m m':Nat→Int} {n:Nat} (h:∀ i,i < n→m i=m' i):bl m n=bl m' n:=by
 unfold bl
 refine List.map_congr_left fun i hi=>?_
 rw [h i (List.mem_range.1 hi)]
theorem Bys.below {w w':World} {a:Option Addr} {len cap:Nat} {m:Nat→Int} (h:Bys w a len cap m) (hb:Below w.heap.size w w'):Bys w' a len cap m:=by
 rcases h with h | h | ⟨b,off,h1,h2,h3,h4,h5⟩
 ·exact .inl h
 ·exact .inr (.inl h)
 ·exact .inr (.inr ⟨b,off,h1,h2,h3,Nat.lt_of_lt_of_le h4 hb.size,fun j hj=>(below_cell hb h4).trans (h5 j hj)⟩)
theorem addr_add (b off j:Nat):(⟨b,off,none⟩:Addr).add j=⟨b,off+j,none⟩:=by
 cases j<;>simp [Addr.add]
theorem owns_pos {W:World} {base:Nat} {e:TypeId} {size:Nat} {v:Value} {k:Nat} {xs:List Value} (h:W.ownsRow base e size v k xs) (hk:0 < k):∃ g cap,v=.slice (some ⟨g,0,none⟩) k cap:=by
 rcases h.2 with ⟨_,h1⟩ | ⟨g,cap,cur,h1,_⟩
 ·omega
 ·exact ⟨g,cap,h1⟩
theorem wpList_append_bys (w : World) {ops : Array Oper} {rest : List Oper} {o : Oper} {a : Act} {Q : Exit → Act → World → Prop} (hgd : o.guard = none) (s x : Operand)
    (ho:o.op=.call { callee:=.builtin .append,args:=#[s,x],argTypes:=#[39,39] })
    (base:Nat) (v:Value) (n:Nat) (xs:List Value) (hs:a.eval s=v) (hown:w.ownsRow base 5 1 v n xs)
    (ao:Option Addr) (len cap:Nat) (m:Nat→Int) (hx:a.eval x=.slice ao len cap) (hb:Bys w ao len cap m) (hbd:n+len≤140737488355328) (hbase:base≤w.heap.size)
    (h:∀ v' w',w'.ownsRow base 5 1 v' (n+len) (xs++bl m len)→w.grownBy w' v.ownBlock→wpList Tryz.prog ops Q rest (a.put o.dst v') w') :
    wpList Tryz.prog ops Q (o :: rest) a w:=by
 obtain ⟨i,hi,hz0,hz1,hz2⟩:=info_parts info8
 rcases hb with ⟨rfl,rfl,rfl⟩ | ⟨x0,rfl,rfl⟩ | ⟨b,off,rfl,hlc,hcm,hbl,hc⟩
 ·refine wpList_append_own_none hgd s x 39 ho base 5 i 1 Tryz.underlying39 hi v n xs hs hown hx (h v w ?_ ⟨rfl,rfl,rfl,Nat.le_refl _,fun _ _ _=>rfl⟩)
  simpa [bl] using hown
 ·exact wpList_append_own w hgd s x 39 ho base 5 i (.int .u8 0) 1 1 Tryz.underlying39 hi hz0 hz1 hz2 rfl (by decide) v n xs hs hown x0 0 cap (bl m 0) hx (by rw [bl_len])
   (fun j u hj=>by
    have:=(bl_get m 0 j u hj).1
    omega) (bl_one m 0) (by unfold maxLen;omega) (by omega) hbase (fun v' w' h1 h2 _=>h v' w' h1 h2)
 ·exact wpList_append_own w hgd s x 39 ho base 5 i (.int .u8 0) 1 1 Tryz.underlying39 hi hz0 hz1 hz2 rfl (by decide) v n xs hs hown ⟨b,off,none⟩ len cap (bl m len) hx (by rw [bl_len];omega)
   (fun j u hj=>by
    obtain ⟨h1,rfl⟩:=bl_get m len j u hj
    rw [addr_add]
    exact hc j h1) (bl_one m len) (by unfold maxLen;omega) (by omega) hbase (fun v' w' h1 h2 _=>h v' w' h1 h2)
theorem wpList_append_byte (w : World) {ops : Array Oper} {rest : List Oper} {o : Oper} {a : Act} {Q : Exit → Act → World → Prop} (hgd : o.guard = none) (s x : Operand)
    (ho:o.op=.call { callee:=.builtin .append,args:=#[s,x],argTypes:=#[39,39] })
    (base:Nat) (v:Value) (n:Nat) (m:Nat→Int) (z:Int) (hs:a.eval s=v) (hown:w.ownsRow base 5 1 v n (bl m n))
    (hx:a.eval x=.slice (some ⟨w.heap.size,0,none⟩) 1 1) (hz:z=m n) (hbd:n+1≤140737488355328) (hbase:base≤w.heap.size)
    (h:∀ g C w',w'.ownsRow base 5 1 (.slice (some ⟨g,0,none⟩) (n+1) C) (n+1) (bl m (n+1))→w.grownBy w' v.ownBlock→wpList Tryz.prog ops Q rest (a.put o.dst (.slice (some ⟨g,0,none⟩) (n+1) C)) w') :
    wpList Tryz.prog ops Q (o :: rest) a (w.alloc (.cells #[.int .u8 z] 5)):=by
 obtain ⟨i,hi,hz0,hz1,hz2⟩:=info_parts info8
 refine wpList_append_own _ hgd s x 39 ho base 5 i (.int .u8 0) 1 1 Tryz.underlying39 hi hz0 hz1 hz2 rfl (by decide) v n (bl m n) hs (hown.alloc _) ⟨w.heap.size,0,none⟩ 1 1 [.int .u8 z] hx rfl (cell_one_new _ _ _)
  (fun u hu=>by simp at hu;subst hu;rfl) (by unfold maxLen;omega) (by omega) (by simp;omega) (fun v' w' h1 h2 _=>?_)
 rw [bl_snoc m n z hz] at h1
 obtain ⟨g,C,rfl⟩:=owns_pos h1 (by omega)
 refine h g C w' h1 ⟨h2.os,h2.tape,h2.output,?_,fun k hk hne=>?_⟩
 ·have:=h2.size
  simp at this
  omega
 ·exact (h2.block k (by simp;omega) hne).trans (heap_old hk)
theorem below_grown {B:Nat} {w0 w w':World} {v:Value} {n:Nat} {xs:List Value} {e:TypeId} (hb:Below B w0 w) (ho:w.ownsRow B e 1 v n xs) (hB:B≤w.heap.size) (hg:w.grownBy w' v.ownBlock):Below B w0 w' :=
 ⟨hg.os.trans hb.os,hg.tape.trans hb.tape,hg.output.trans hb.output,Nat.le_trans hb.size hg.size,fun k hk=>(hg.block k (by omega) (fun e=>by have:=(ho.lt k e.symm).1;omega)).trans (hb.block k hk)⟩
def sliceLen:Value→Nat
 | .slice _ n _ => n
 | _ => 0
theorem own_cells {w:World} {B:Nat} {g n C:Nat} {m:Nat→Int} (h:w.ownsRow B 5 1 (.slice (some ⟨g,0,none⟩) n C) n (bl m n)):B≤g∧g < w.heap.size∧n≤C∧C≤9223372036854775807∧∀ j,j < n→w.cell? ⟨g,j,none⟩=some (.int .u8 (m j)):=by
 have hl:=h.lt g rfl
 refine ⟨hl.1,hl.2,?_,?_,fun j hj=>?_⟩
 ·rcases h.2 with ⟨h1,_⟩ | ⟨g',cap,cur,h1,_,_,h2,_⟩
  ·cases h1
  ·cases h1;exact h2
 ·rcases h.2 with ⟨h1,_⟩ | ⟨g',cap,cur,h1,_,_,h2,h3,_⟩
  ·cases h1
  ·cases h1;unfold maxLen at h3;omega
 ·have:=h.cells (g:=g) rfl j _ (bl_at m n j hj)
  rw [addr_add,Nat.zero_add] at this
  exact this
set_option maxRecDepth 20000 in
set_option maxHeartbeats 1000000 in
theorem padded_wide (m : Nat → Int) (a : Option Addr) (len cap : Nat) (w : World) (hb : Bys w a len cap m) (hlen : len ≤ 140737488353280) :
    Calls Tryz.prog 93 #[.slice a len cap] w fun e w'=>∃ g C,e=.returned (.slice (some ⟨g,0,none⟩) (padL len) C)∧w'.ownsRow w.heap.size 5 1 (.slice (some ⟨g,0,none⟩) (padL len) C) (padL len) (bl (padM m len) (padL len))∧Below w.heap.size w w':=by
 have hb0:Bys w a len cap (padM m len):=by
  rcases hb with h | h | ⟨b,off,h1,h2,h3,h4,h5⟩
  ·exact .inl h
  ·exact .inr (.inl h)
  ·exact .inr (.inr ⟨b,off,h1,h2,h3,h4,fun j hj=>by rw [h5 j hj];unfold padM;rw [if_pos hj]⟩)
 obtain ⟨M,hM⟩:∃ M,padM m len=M:=⟨_,rfl⟩
 obtain ⟨z,ez⟩:∃ z,z=padZ len:=⟨_,rfl⟩
 have hz:=padZ_bd len
 rw [←ez] at hz
 have HE:=hid (And.intro hM ez)
 rw [hM] at hb0
 have hM0:(128:Int)=M len:=by
  rw [←hM]
  show (128:Int)=padM m len (len+0)
  rw [padM_at];rfl
 have hM1:∀ j,len < j→j < len+z→(0:Int)=M j:=by
  intro j h1 h2
  rw [←hM,show j=len+(j - len) by omega,padM_at]
  unfold padB
  rw [if_neg (by omega),if_pos (by omega)]
 have HM1:=hid hM1
 have HBY:=hid hb0
 have HM0:=hid hM0
 clear hb hM ez hM0 hM1 hb0
 go_enter Tryz.func93,Tryz.ntmps93
 go_upto_region 2 with (first
  | (at_builtin; (refine wpList_append_bys _ rfl _ _ rfl w.heap.size _ 0 [] rfl (World.ownsRow_made _ #[] 0 (Nat.le_refl _) (Nat.zero_le _) rfl) a len cap M rfl (HBY.out.below (by go_grown)) (by omega) (by simp) ?_); intro v1 w1 ho1 hg1; rw [Nat.zero_add, List.nil_append] at ho1)
  | (at_builtin; (refine wpList_append_byte _ rfl _ _ rfl w.heap.size v1 len M 128 rfl ho1 rfl HM0.out (by omega) (by have := hg1.size; simp at this; omega) ?_); intro g2 C2 w2 ho2 hg2))
 have hb1:Below w.heap.size w w1:=below_grown ((Below.refl _ _).alloc (Nat.le_refl _) _) (World.ownsRow_made _ #[] 0 (Nat.le_refl _) (Nat.zero_le _) rfl) (by simp) hg1
 have hb2:Below w.heap.size w w2:=below_grown hb1 ho1 hb1.size hg2
 clear hg1 hg2 ho1 hb1
 go_loopw [3] (fun v wr=>∃ n g C,v=.slice (some ⟨g,0,none⟩) n C∧len < n∧n≤len+z∧wr.ownsRow w.heap.size 5 1 (.slice (some ⟨g,0,none⟩) n C) n (bl M n)∧Below w.heap.size w wr) (fun v _=>len+64 - sliceLen v)
 case atStart=>exact ⟨len+1,g2,C2,rfl,by omega,by omega,ho2,hb2⟩
 case round =>
  obtain ⟨n,g,C,rfl,hn1,hn2,hown,hbel⟩:=hrel
  have HO:=hid hown
  have HB:=hid hbel
  clear hown hbel
  by_cases hn:n % 64=56
  ·have hn3:(n:Int) % 64=56:=by omega
   have hn4:n=len+z:=by omega
   have HN:=hid hn4
   have n1:n+8≤140737488355328:=by omega
   have l1:(0:Int)≤(len:Int):=by omega
   have l2:(len:Int)≤140737488353280:=by omega
   clear hn hn1 hn2 hn4 hb2 ho2 hz HM0 HM1 HBY
   go_wp2
   clear hn3
   go_loopw [3,5] (fun v i wr=>∃ k g C:Nat,k≤8∧i=.int .i64 (7 - (k:Int))∧v=.slice (some ⟨g,0,none⟩) (n+k) C∧wr.ownsRow w.heap.size 5 1 (.slice (some ⟨g,0,none⟩) (n+k) C) (n+k) (bl M (n+k))∧Below w.heap.size w wr) (fun _ i _=>(intOf i+1).toNat)
   case atStart=>exact ⟨0,g,C,by omega,rfl,rfl,HO.out,HB.out⟩
   case round =>
    obtain ⟨k,g3,C3,hk,rfl,rfl,hown,hbel⟩:=hrel
    have HO3:=hid hown
    have HB3:=hid hbel
    clear hown hbel HO HB
    by_cases hk8:k=8
    ·subst hk8
     have e:n+8=padL len:=by rw [HN.out,HE.out.2];unfold padL;omega
     have HO4:=HO3.out
     rw [e] at HO4
     have H4:=hid HO4
     have HE4:=hid e
     clear HO4 e
     go_wp2
     go_ret
     rw [HE4.out,HE.out.1]
     exact ⟨g3,C3,rfl,H4.out,HB3.out⟩
    ·obtain ⟨j,hj⟩:∃ j:Nat,k=7 - j∧j < 8:=⟨7 - k,by omega,by omega⟩
     rw [show 7 - (k:Int)=(j:Int) by omega]
     have hk1:(j:Int) < 8:=by omega
     have hk2:(0:Int)≤(j:Int):=by omega
     have HJ:=hid hj
     have hv:(len:Int)*8 / 2 ^ (8*j) % 256=M (n+k):=by
      rw [HN.out,←HE.out.1,HE.out.2,show len+padZ len+k=len+(padZ len+k) by omega,padM_at]
      unfold padB
      have hz:=padZ_bd len
      rw [if_neg (by omega),if_neg (by omega)]
      unfold lenB
      rw [show padZ len+k - padZ len=k by omega,show 7 - k=j by omega,Int.mul_comm]
     have HV:=hid hv
     clear hv
     have hk3:n+k+1≤140737488355328:=by omega
     clear hj
     go_wp2_with (at_builtin;(refine wpList_append_byte _ rfl _ _ rfl w.heap.size (.slice (some ⟨g3,0,none⟩) (n+k) C3) (n+k) M _ rfl HO3.out rfl HV.out hk3 HB3.out.size ?_);intro g4 C4 w4 ho4 hg4)
     go_roundw
     case rel=>exact ⟨k+1,g4,C4,by omega,by have:=HJ.out;congr 1;omega,rfl,ho4,below_grown HB3.out HO3.out HB3.out.size hg4⟩
     case measure=>simp [intOf]
  ·have hn3:¬ (n:Int) % 64=56:=by omega
   have HM:=hid (HM1.out n hn1 (by omega))
   go_wp2_with (at_builtin;(refine wpList_append_byte _ rfl _ _ rfl w.heap.size (.slice (some ⟨g,0,none⟩) n C) n M 0 rfl HO.out rfl HM.out (by omega) HB.out.size ?_);intro g3 C3 w3 ho3 hg3)
   go_roundw
   case rel=>exact ⟨n+1,g3,C3,rfl,by omega,by omega,ho3,below_grown HB.out HO.out HB.out.size hg3⟩
   case measure=>simp [sliceLen];omega
end
section
open Go.RowKit
set_option linter.unusedVariables false
set_option linter.unusedSimpArgs false
def ap22 (ty:TypeId) (x y:Value):Sem Value:=Builtin.append_ #[39,39] ty #[x,y]
theorem wp_append_is {P : Program} {o : Oper} {a : Act} {w : World} {K : Act → World → Prop} {Q : Exit → Act → World → Prop} (s x : Operand)
    (ho:o.op=.call { callee:=.builtin .append,args:=#[s,x],argTypes:=#[39,39] }) (ws wx v:Value) (w':World) (hs:a.eval s=ws) (hx:a.eval x=wx)
    (hrun:(ap22 o.type ws wx).run P w=.ok v w') (h:K (a.put o.dst v) w'):Oper.wp P o a w K Q:=by
 unfold ap22 at hrun
 unfold Oper.wp execOp
 simp only [ho,resolve,invoke,builtin,Sem.run_bind,Sem.run_pure,Result.andThen_ok,List.map_toArray,List.map_cons,List.map_nil,hs,hx,hrun]
 exact h
set_option maxRecDepth 20000 in
theorem ap_root (base : Nat) (W : World) (v : Value) (n : Nat) (m : Nat → Int) (hown : W.ownsRow base 5 1 v n (bl m n)) (b : Nat) (c : Nat → Int) (hb : ∀ j, j < 32 → W.cell? ⟨b, j, none⟩ = some (.int .u8 (c j))) (hm : ∀ j, j < 32 → m (n + j) = c j) (hbase : base ≤ W.heap.size) (hn : n ≤ 64) (ty : TypeId) :
    ∃ g C w',(ap22 ty v (.slice (some ⟨b,0,none⟩) 32 32)).run Tryz.prog W=.ok (.slice (some ⟨g,0,none⟩) (n+32) C) w'∧w'.ownsRow base 5 1 (.slice (some ⟨g,0,none⟩) (n+32) C) (n+32) (bl m (n+32))∧W.grownBy w' v.ownBlock:=by
 obtain ⟨i,hi,hz0,hz1,hz2⟩:=info_parts info8
 obtain ⟨v',w',hr,ho,hg,_⟩:=run_append_own_at (P:=Tryz.prog) W base 39 ty 5 i (.int .u8 0) 1 1 Tryz.underlying39 hi hz0 hz1 hz2 rfl (by decide) v n (bl m n) hown ⟨b,0,none⟩ 32 32 (bl c 32) (by rw [bl_len])
  (fun j u hj=>by
   obtain ⟨h1,rfl⟩:=bl_get c 32 j u hj
   rw [addr_add,Nat.zero_add]
   exact hb j h1) (bl_one c 32) (by unfold maxLen;omega) (by omega) hbase
 have e:bl m n++bl c 32=bl m (n+32):=by
  unfold bl
  rw [List.range_add,List.map_append,List.map_map]
  congr 1
  refine List.map_congr_left fun j hj=>?_
  show Value.int .u8 (c j)=Value.int .u8 (m (n+j))
  rw [hm j (List.mem_range.1 hj)]
 rw [e] at ho
 obtain ⟨g,C,rfl⟩:=owns_pos ho (by omega)
 exact ⟨g,C,w',hr,ho,hg⟩
attribute [local go_sem ↓] sv24_eq lv24_eq
end
end Go.Proofs.YtfgmddnfhphdeaaGreatDoor
