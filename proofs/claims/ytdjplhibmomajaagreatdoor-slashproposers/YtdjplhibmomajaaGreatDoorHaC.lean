/- A part. -/
import Derived.Test.YtdjplhibmomajaaGreatDoorHaB
import Derived.Test.YtdjplhibmomajaaGreatDoorHaA
import Derived.Laws.IdiomCopy
import Derived.Laws.CopyOwn
import Derived.StillTailTactics
import Derived.Deep.RegionWith
namespace Go.Proofs.YtdjplhibmomajaaGreatDoor
open Go.RowKit
set_option linter.unusedVariables false
set_option linter.unusedSimpArgs false
section
open Go.RowKit
set_option linter.unusedVariables false
def dg (s f:Nat→Int) (n:Int):Array Value:=vs .u32 8 s++vs .u8 64 f++#[.int .u64 n]
theorem aBm (s f:Nat→Int) (n:Int):(dg s f n).size=73:=by simp [dg,aAp]
theorem aBE (s f:Nat→Int) (n:Int) (i:Nat) (h:i < 8):(dg s f n)[i]?=some (.int .u32 (s i)):=by
 unfold dg
 rw [Array.getElem?_append_left (by simp [aAp];omega),Array.getElem?_append_left (by simp [aAp];omega),aBB _ _ _ _ h]
theorem aEq (s f:Nat→Int) (n:Int) (j:Nat) (h:j < 64):(dg s f n)[8+j]?=some (.int .u8 (f j)):=by
 unfold dg
 rw [Array.getElem?_append_left (by simp [aAp];omega),Array.getElem?_append_right (by simp [aAp]),aAp,show 8+j - 8=j by omega,aBB _ _ _ _ h]
theorem aEU (s f:Nat→Int) (n:Int):(dg s f n)[72]?=some (.int .u64 n):=by
 unfold dg
 rw [Array.getElem?_append_right (by simp [aAp])]
 simp [aAp]
theorem aKa {s f s' f':Nat→Int} {n n':Int} (c:Array Value) (hc:c.size=73) (hw:∀ i,i < 8→c[i]?=some (.int .u32 (s' i))) (hb:∀ j,j < 64→c[8+j]?=some (.int .u8 (f' j))) (hl:c[72]?=some (.int .u64 n')):c=dg s' f' n':=by
 apply Array.ext_getElem?
 intro i
 by_cases h8:i < 8
 ·rw [hw i h8,aBE _ _ _ i h8]
 ·by_cases h72:i < 72
  ·have e:i=8+(i - 8):=by omega
   rw [e,hb (i - 8) (by omega),aEq _ _ _ _ (by omega)]
  ·by_cases e:i=72
   ·subst e;rw [hl,aEU]
   ·rw [Array.getElem?_eq_none (by omega),Array.getElem?_eq_none (by rw [aBm];omega)]
theorem aKc (s f:Nat→Int) (n n':Int):(dg s f n).setIfInBounds 72 (.int .u64 n')=dg s f n':=by
 refine aKa (s:=s) (f:=f) (n:=n) _ (by simp [aBm]) ?_ ?_ ?_
 ·intro i hi;rw [Array.getElem?_setIfInBounds_ne (by omega),aBE _ _ _ i hi]
 ·intro j hj;rw [Array.getElem?_setIfInBounds_ne (by omega),aEq _ _ _ j hj]
 ·rw [Array.getElem?_setIfInBounds_self_of_lt (by rw [aBm];omega)]
theorem aKb (s f g : Nat → Int) (n : Int) (v0 v1 v2 v3 v4 v5 v6 v7 : Int) (e0 : v0 = g 0) (e1 : v1 = g 1) (e2 : v2 = g 2) (e3 : v3 = g 3) (e4 : v4 = g 4) (e5 : v5 = g 5) (e6 : v6 = g 6) (e7 : v7 = g 7) :
    ((((((((dg s f n).setIfInBounds 0 (.int .u32 v0)).setIfInBounds 1 (.int .u32 v1)).setIfInBounds 2 (.int .u32 v2)).setIfInBounds 3 (.int .u32 v3)).setIfInBounds 4 (.int .u32 v4)).setIfInBounds 5 (.int .u32 v5)).setIfInBounds 6 (.int .u32 v6)).setIfInBounds 7 (.int .u32 v7)=dg g f n:=by
 refine aKa (s:=s) (f:=f) (n:=n) _ (by simp [aBm]) ?_ ?_ ?_
 ·intro i hi
  rcases (by omega:i=0∨i=1∨i=2∨i=3∨i=4∨i=5∨i=6∨i=7) with h | h | h | h | h | h | h | h
  all_goals
   subst h
   simp [aBm, *]
 ·intro j hj
  rw [Array.getElem?_setIfInBounds_ne (by omega),Array.getElem?_setIfInBounds_ne (by omega),Array.getElem?_setIfInBounds_ne (by omega),Array.getElem?_setIfInBounds_ne (by omega),Array.getElem?_setIfInBounds_ne (by omega),Array.getElem?_setIfInBounds_ne (by omega),Array.getElem?_setIfInBounds_ne (by omega),Array.getElem?_setIfInBounds_ne (by omega),aEq _ _ _ j hj]
 ·rw [Array.getElem?_setIfInBounds_ne (by omega),Array.getElem?_setIfInBounds_ne (by omega),Array.getElem?_setIfInBounds_ne (by omega),Array.getElem?_setIfInBounds_ne (by omega),Array.getElem?_setIfInBounds_ne (by omega),Array.getElem?_setIfInBounds_ne (by omega),Array.getElem?_setIfInBounds_ne (by omega),Array.getElem?_setIfInBounds_ne (by omega),aEU]
theorem aMB {w:World} {g:Nat} {s f:Nat→Int} {n:Int} {t:TypeId} (h:w.heap[g]?=some (.cells (dg s f n) t)):w.rangeAt g 8 ((List.range 64).map fun i=>Value.int .u8 (f i)):=by
 intro j v hj
 have hlt:j < 64:=by
  have:=(List.getElem?_eq_some_iff.1 hj).1
  simpa using this
 rw [aAs h,aEq _ _ _ j hlt]
 simp [hlt] at hj
 rw [hj]
theorem aFR {w:World} {g:Nat} {s f:Nat→Int} {n:Int} {t:TypeId} (h:w.heap[g]?=some (.cells (dg s f n) t)):(Instr.loadAt 149 (.pointer (some ⟨g,8,none⟩))).run Tryz.prog w=.ok (.agg (vs .u8 64 f)) w :=
 run_loadAt_mid w g 8 149 _ _ (aMB h) Tryz.underlying149 rfl (by rw [List.length_map,List.length_range];kernel_rfl)
theorem aTM {b : Nat} {w' : World} {c : Array Value} {t : TypeId} (hr : w'.heap[b]? = some (.cells c t)) (v0 v1 v2 v3 v4 v5 v6 v7 : Value) :
    ((((((((w'.setCell ⟨b,0,none⟩ v0).setCell ⟨b,1,none⟩ v1).setCell ⟨b,2,none⟩ v2).setCell ⟨b,3,none⟩ v3).setCell ⟨b,4,none⟩ v4).setCell ⟨b,5,none⟩ v5).setCell ⟨b,6,none⟩ v6).setCell ⟨b,7,none⟩ v7).heap[b]?=some (.cells ((((((((c.setIfInBounds 0 v0).setIfInBounds 1 v1).setIfInBounds 2 v2).setIfInBounds 3 v3).setIfInBounds 4 v4).setIfInBounds 5 v5).setIfInBounds 6 v6).setIfInBounds 7 v7) t) :=
 aAI (aAI (aAI (aAI (aAI (aAI (aAI (aAI hr 0 v0) 1 v1) 2 v2) 3 v3) 4 v4) 5 v5) 6 v6) 7 v7
def hsh (K H m:Nat→Int):Nat→Nat→Int
 | 0 => H
 | q + 1 => aDR K (fun j => m (64 * q + j)) (hsh K H m q)
theorem aKt (K H m:Nat→Int) (hH:∀ i,i < 8→0≤H i∧H i < 4294967296) (q:Nat):∀ i,i < 8→0≤hsh K H m q i∧hsh K H m q i < 4294967296:=by
 cases q with
 | zero => exact hH
 | succ q => exact fun i _ => aP6 _ _ _ _
theorem aGI {K H m m':Nat→Int} (q:Nat) (h:∀ i,i < 64*q→m i=m' i):∀ i,i < 8→hsh K H m q i=hsh K H m' q i:=by
 induction q with
 | zero => exact fun _ _ => rfl
 | succ q ih =>
  intro i hi
  exact aFw (fun j hj=>h _ (by omega)) (ih (fun j hj=>h j (by omega))) i hi
structure Dig (K H m:Nat→Int) (L:Nat) (s f:Nat→Int):Prop where
 words:∀ i,i < 8→s i=hsh K H m (L / 64) i
 bytes:∀ j,j < L % 64→f j=m (64*(L / 64)+j)
 range:∀ j,j < 64→0≤f j∧f j < 256
 start:∀ i,i < 8→0≤H i∧H i < 4294967296
theorem Dig.bd {K H m:Nat→Int} {L:Nat} {s f:Nat→Int} (h:Dig K H m L s f):∀ i,i < 8→0≤s i∧s i < 4294967296:=fun i hi=>by
 rw [h.words i hi];exact aKt K H m h.start _ i hi
theorem Dig.congr {K H m m':Nat→Int} {L:Nat} {s f:Nat→Int} (h:Dig K H m L s f) (hm:∀ i,i < L→m i=m' i):Dig K H m' L s f :=
 ⟨fun i hi=>by rw [h.words i hi,aGI (L / 64) (fun j hj=>hm j (by omega)) i hi],fun j hj=>by rw [h.bytes j hj,hm _ (by omega)],h.range,h.start⟩
def over (f z:Nat→Int) (p c:Nat) (j:Nat):Int:=if p≤j∧j < p+c then z (j - p) else f j
theorem aKS {f z:Nat→Int} {p c:Nat} (hf:∀ j,j < 64→0≤f j∧f j < 256) (hz:∀ j,j < c→0≤z j∧z j < 256):∀ j,j < 64→0≤over f z p c j∧over f z p c j < 256:=by
 intro j hj
 unfold over
 by_cases h:p≤j∧j < p+c
 ·rw [if_pos h];exact hz _ (by omega)
 ·rw [if_neg h];exact hf j hj
theorem Dig.part {K H m:Nat→Int} {L:Nat} {s f z:Nat→Int} (h:Dig K H m L s f) (c:Nat) (hc:L % 64+c < 64) (hz:∀ j,j < c→z j=m (L+j)) (hr:∀ j,j < c→0≤z j∧z j < 256):Dig K H m (L+c) s (over f z (L % 64) c):=by
 have e:(L+c) / 64=L / 64:=by omega
 refine ⟨fun i hi=>by rw [e];exact h.words i hi,fun j hj=>?_,aKS h.range hr,h.start⟩
 rw [e]
 unfold over
 by_cases hp:L % 64≤j∧j < L % 64+c
 ·rw [if_pos hp,hz _ (by omega)]
  congr 1
  omega
 ·rw [if_neg hp]
  exact h.bytes j (by omega)
theorem Dig.full {K H m:Nat→Int} {L:Nat} {s f z:Nat→Int} (h:Dig K H m L s f) (c:Nat) (hc:L % 64+c=64) (hz:∀ j,j < c→z j=m (L+j)) (hr:∀ j,j < c→0≤z j∧z j < 256):Dig K H m (L+c) (aDR K (over f z (L % 64) c) s) (over f z (L % 64) c):=by
 have e:(L+c) / 64=L / 64+1:=by omega
 refine ⟨fun i hi=>?_,fun j hj=>absurd hj (by omega),aKS h.range hr,h.start⟩
 rw [e]
 refine aFw (fun j hj=>?_) h.words i hi
 unfold over
 by_cases hp:L % 64≤j∧j < L % 64+c
 ·rw [if_pos hp,hz _ (by omega)]
  congr 1
  omega
 ·rw [if_neg hp]
  exact h.bytes j (by omega)
structure Kept (g:Nat) (w w':World):Prop where
 os:w'.os=w.os
 tape:w'.tape=w.tape
 output:w'.output=w.output
 size:w.heap.size≤w'.heap.size
 block:∀ k,k < w.heap.size→k≠g→w'.heap[k]?=w.heap[k]?
theorem Kept.refl (g:Nat) (w:World):Kept g w w:=⟨rfl,rfl,rfl,Nat.le_refl _,fun _ _ _=>rfl⟩
theorem Kept.trans {g:Nat} {a b c:World} (h:Kept g a b) (k:Kept g b c):Kept g a c :=
 ⟨k.os.trans h.os,k.tape.trans h.tape,k.output.trans h.output,Nat.le_trans h.size k.size,fun i hi hn=>(k.block i (Nat.lt_of_lt_of_le hi h.size) hn).trans (h.block i hi hn)⟩
theorem Kept.ofBelow {g:Nat} {a b:World} (h:Below a.heap.size a b):Kept g a b:=⟨h.os,h.tape,h.output,h.size,fun i hi _=>h.block i hi⟩
theorem Kept.drew {g:Nat} {a b:World} (h:Kept g a b):Kept g a b.drew:=⟨h.os,h.tape,h.output,h.size,h.block⟩
theorem Kept.setRow {g:Nat} {a b:World} (h:Kept g a b) (c:Array Value):Kept g a (b.setRow g c) :=
 h.trans ⟨rfl,rfl,rfl,by simp,fun k _ hk=>setRow_other b g k c hk⟩
theorem Kept.setCell {g:Nat} {a b:World} (h:Kept g a b) (i:Nat) (v:Value):Kept g a (b.setCell ⟨g,i,none⟩ v) :=
 h.trans ⟨rfl,rfl,rfl,by simp [World.setCell],fun k _ hk=>aAK hk⟩
theorem Kept.below {g:Nat} {a b:World} (h:Kept g a b) {B:Nat} (hB:B≤g) (hB':B≤a.heap.size):Below B a b:=⟨h.os,h.tape,h.output,h.size,fun k hk=>h.block k (by omega) (by omega)⟩
theorem Kept.cell {g:Nat} {a b:World} (h:Kept g a b) {k i:Nat} (hk:k < a.heap.size) (hn:k≠g):b.cell? ⟨k,i,none⟩=a.cell? ⟨k,i,none⟩:=World.cell?_of_block (w:=a) (h.block k hk hn)
theorem Kept.tab {g:Nat} {a b:World} (h:Kept g a b) {k n:Nat} {f:Nat→Int} (ht:Tab a k n f) (hn:k≠g):Tab b k n f :=
 ⟨Nat.lt_of_lt_of_le ht.1 h.size,fun i hi=>(h.cell ht.1 hn).trans (ht.2 i hi)⟩
theorem aCA {P : Program} {ops : Array Oper} {o : Oper} {a : Act} {w : World} {K : Act → World → Prop} {Q : Exit → Act → World → Prop} {E : Prop} (hgd : o.guard = none) (d s : Operand) (dT sT : TypeId)
    (ho:o.op=.call { callee:=.builtin .copy,args:=#[d,s],argTypes:=#[dT,sT] }) (vd vx v:Value) (w':World) (hd:a.eval d=vd) (hs:a.eval s=vx)
    (hrun:∀ ty,(Builtin.copy_ #[dT,sT] ty #[vd,vx]).run P w=.ok v w') (h:K (a.put o.dst v) w') :
    if Region.wanted o (yielded ops a.tmps)=true then Oper.wp P o a w K Q else E:=by
 have hw:Region.wanted o (yielded ops a.tmps)=true:=by simp [Region.wanted,hgd]
 rw [if_pos hw]
 unfold Oper.wp execOp
 simp only [ho,resolve,invoke,builtin,Sem.run_bind,Sem.run_pure,Result.andThen_ok,List.map_toArray,List.map_cons,List.map_nil,hd,hs,hrun]
 exact h
theorem aFS {w:World} {g:Nat} {s f:Nat→Int} {n:Int} {t:TypeId} (h:w.heap[g]?=some (.cells (dg s f n) t)):(Instr.loadAt 139 (.pointer (some ⟨g,0,none⟩))).run Tryz.prog w=.ok (.agg (vs .u32 8 s)) w:=by
 have hr:w.rangeAt g 0 ((List.range 8).map fun i=>Value.int .u32 (s i)):=by
  intro j v hj
  have hlt:j < 8:=by
   have:=(List.getElem?_eq_some_iff.1 hj).1
   simpa using this
  rw [aAs h,Nat.zero_add,aBE _ _ _ j hlt]
  simp [hlt] at hj
  rw [hj]
 exact run_loadAt_mid w g 0 139 _ _ hr Tryz.underlying139 rfl (by rw [List.length_map,List.length_range];kernel_rfl)
theorem aP7 (W : World) (g : Nat) (s f z : Nat → Int) (n : Int) (p c : Nat) (x : Addr) (len cap dcap : Nat) (hg : W.heap[g]? = some (.cells (dg s f n) 151)) (hp : p + c ≤ 64) (hc : c = Nat.min len (64 - p)) (hx : ∀ j, j < c → W.cell? (x.add j) = some (.int .u8 (z j))) :
    ∀ ty,(Builtin.copy_ #[39,39] ty #[.slice (some ⟨g,8+p,none⟩) (64 - p) dcap,.slice (some x) len cap]).run Tryz.prog W=.ok (.int .i64 c) (W.setRow g (dg s (over f z p c) n)):=by
 intro ty
 have hrun:=run_copy_row (P:=Tryz.prog) W 39 39 ty 5 g (8+p) (64 - p) dcap x len cap (dg s f n) 151 ((vs .u8 c z).toList) Tryz.underlying39 (by kernel_rfl) hg (by rw [Array.length_toList,aAp];exact hc)
  (fun j v hj=>by
   rw [Array.getElem?_toList] at hj
   have hlt:j < c:=by
    by_cases h:j < c
    ·exact h
    ·rw [aBA _ _ _ _ (by omega)] at hj;cases hj
   rw [aBB _ _ _ _ hlt] at hj
   cases hj
   exact hx j hlt)
  (by rw [Array.length_toList,aAp,aBm];omega) (fun v hv=>by
   rw [Array.mem_toList_iff] at hv
   exact (Array.all_eq_true_iff_forall_mem.1 (aCB _ _ _)) v hv)
 rw [hrun,Array.length_toList,aAp]
 have e:((dg s f n).toList.take (8+p)++((vs .u8 c z).toList++(dg s f n).toList.drop (8+p+c))).toArray=dg s (over f z p c) n:=by
  refine aKa (s:=s) (f:=f) (n:=n) _ ?_ ?_ ?_ ?_
  ·simp [aBm,aAp];omega
  ·intro i hi
   rw [List.getElem?_toArray,List.getElem?_append_left (by simp [aBm];omega),List.getElem?_take_of_lt (by omega),Array.getElem?_toList,aBE _ _ _ i hi]
  ·intro j hj
   rw [List.getElem?_toArray]
   unfold over
   by_cases h1:j < p
   ·rw [if_neg (by omega),List.getElem?_append_left (by simp [aBm];omega),List.getElem?_take_of_lt (by omega),Array.getElem?_toList,aEq _ _ _ j hj]
   ·rw [List.getElem?_append_right (by simp [aBm];omega)]
    by_cases h2:j < p+c
    ·rw [if_pos (by omega),List.getElem?_append_left (by simp [aBm,aAp];omega),Array.getElem?_toList,aBB _ _ _ _ (by simp [aBm];omega)]
     simp [aBm]
     exact congrArg z (by omega)
    ·rw [if_neg (by omega),List.getElem?_append_right (by simp [aBm,aAp];omega),List.getElem?_drop,Array.getElem?_toList]
     rw [show 8+p+c+(8+j - ((dg s f n).toList.take (8+p)).length - (vs .u8 c z).toList.length)=8+j by simp [aBm,aAp];omega,aEq _ _ _ j hj]
  ·rw [List.getElem?_toArray,List.getElem?_append_right (by simp [aBm];omega),List.getElem?_append_right (by simp [aBm,aAp];omega),List.getElem?_drop,Array.getElem?_toList]
   rw [show 8+p+c+(72 - ((dg s f n).toList.take (8+p)).length - (vs .u8 c z).toList.length)=72 by simp [aBm,aAp];omega,aEU]
 rw [List.append_assoc,e]
 rfl
end
section
open Go.RowKit
set_option linter.unusedVariables false
def aTB (a:Addr):Sem Value:=loadVar 139 a
def aV9 (a:Addr):Sem Value:=loadVar 149 a
theorem aHF (a:Addr):loadVar 139 a=aTB a:=rfl
theorem aPx (a:Addr):loadVar 149 a=aV9 a:=rfl
attribute [local go_sem ↓] aHF aPx
theorem aAP {P:Program} {ty:TypeId} {a:Addr} {w:World} {v:Value} (h:(Instr.loadAt ty (.pointer (some a))).run P w=.ok v w):(loadVar ty a).run P w=.ok v w:=by
 simpa only [Instr.loadAt,Instr.sureAddr,Sem.run_bind,Sem.run_pure,Result.andThen_ok] using h
theorem aIv {w:World} {g:Nat} {s f:Nat→Int} {n:Int} {t:TypeId} (h:w.heap[g]?=some (.cells (dg s f n) t)):(aTB ⟨g,0,none⟩).run Tryz.prog w=.ok (.agg (vs .u32 8 s)) w:=aAP (aFS h)
theorem aN0 {w:World} {g:Nat} {s f:Nat→Int} {n:Int} {t:TypeId} (h:w.heap[g]?=some (.cells (dg s f n) t)):(aV9 ⟨g,8,none⟩).run Tryz.prog w=.ok (.agg (vs .u8 64 f)) w:=aAP (aFR h)
set_option maxRecDepth 20000 in
set_option maxHeartbeats 2000000 in
theorem aCS (K H m : Nat → Int) (g : Nat) (s f : Nat → Int) (L len cap b0 off : Nat) (w : World) (hd : Dig K H m L s f) (hg : w.heap[g]? = some (.cells (dg s f L) 151)) (hK : Tab w 2 64 K) (hg2 : (2 : Nat) ≠ g)
    (hz:∀ j,j < len→w.cell? ⟨b0,off+j,none⟩=some (.int .u8 (m (L+j)))) (hr:∀ j,j < len→0≤m (L+j)∧m (L+j) < 256) (hb:b0≠g) (hb':b0 < w.heap.size) (hL:L+len < 4611686018427387904) (hc:len≤cap) (hc':cap≤9223372036854775807) :
    Calls Tryz.prog 82 #[.pointer (some ⟨g,0,none⟩),.slice (some ⟨b0,off,none⟩) len cap] w fun e w'=>e=.returned (.tuple #[])∧Kept g w w'∧∃ s' f',Dig K H m (L+len) s' f'∧w'.heap[g]?=some (.cells (dg s' f' ((L+len:Nat):Int)) 151):=by
 have HD:=hid hd
 have HG:=hid hg
 have HK:=hid hK
 have HZ:=hid hz
 have HR:=hid hr
 clear hd hg hK hz hr
 go_enter Tryz.func82,Tryz.ntmps82
 go_wp2
 go_loopw [1] (fun b wr=>∃ (k:Nat) (s f:Nat→Int) (A:Addr),k≤len∧b=.slice (some A) (len - k) (cap - k)∧(k < len→A=⟨b0,off+k,none⟩)∧Dig K H m (L+k) s f∧wr.heap[g]?=some (.cells (dg s f ((L+k:Nat):Int)) 151)∧Kept g w wr) (fun b _=>match b with | .slice _ n _=>n | _=>0)
 case atStart=>exact ⟨0,s,f,_,Nat.zero_le _,rfl,fun _=>rfl,HD.out,HG.out,Kept.refl _ _⟩
 case round =>
  clear HD HG
  obtain ⟨k,s,f,A,hk,rfl,hA,hd,hg,hkept⟩:=hrel
  by_cases hlt:k < len
  ·have hA:=hA hlt
   subst hA
   obtain ⟨N,eN⟩:∃ N,N=L+k:=⟨_,rfl⟩
   obtain ⟨p,ep⟩:∃ p,p=N % 64:=⟨_,rfl⟩
   obtain ⟨M,eM⟩:∃ M,M=len - k:=⟨_,rfl⟩
   obtain ⟨C,eC⟩:∃ C,C=cap - k:=⟨_,rfl⟩
   rw [←eN] at hd hg
   rw [←eM,←eC]
   have cl:=aAs hg 72
   rw [aEU] at cl
   have HD:=hid hd
   have HG:=hid hg
   have HKP:=hid hkept
   have b1:(0:Int)≤(p:Int):=by omega
   have b2:(p:Int) < 64:=by omega
   have b3:(p:Int)≤64:=by omega
   have b4:(0:Int) < (M:Int):=by omega
   have r1:(N:Int).tmod 64=(p:Int):=by rw [Int.tmod_eq_emod_of_nonneg (by omega)];omega
   have r2:IntKind.u64.wrap (p:Int)=(p:Int):=by rw [IntKind.wrap_u64];omega
   have r3:(N:Int) % 64=(p:Int):=by omega
   have HE:=hid (And.intro eN (And.intro ep (And.intro eM eC)))
   clear hd hg hkept eN ep eM eC
   obtain ⟨c,ec⟩:∃ c,c=Nat.min M (64 - p):=⟨_,rfl⟩
   have hcM:c≤M:=by rw [ec];exact Nat.min_le_left _ _
   have hcp':c≤64 - p:=by rw [ec];exact Nat.min_le_right _ _
   have hcp:p+c≤64:=by omega
   have np:¬ 64=p:=by omega
   have hc0:0 < c:=by rw [ec];exact Nat.lt_min.2 ⟨by omega,by omega⟩
   have hx:∀ j,j < c→wr.cell? ((⟨b0,off+k,none⟩:Addr).add j)=some (.int .u8 ((fun j=>m (N+j)) j)):=by
    intro j hj
    obtain ⟨eN,ep,eM,eC⟩:=HE.out
    rw [Addr.add_mid,HKP.out.cell hb' hb,show off+k+j=off+(k+j) by omega,HZ.out (k+j) (by omega),eN,show L+(k+j)=L+k+j by omega]
   have hcopy:=aP7 wr.drew g s f (fun j=>m (N+j)) N p c ⟨b0,off+k,none⟩ M C (64 - p) HG.out hcp ec hx
   have HC:=hid hcopy
   have HEC:=hid ec
   clear hcopy hx ec
   go_wp2
   go_region_held3 (fun w'=>w'.cell? ⟨g,72,none⟩=some (.int .u64 N)) (first | exact cl | exact ((aAs (aA4 (w:=wr.drew) HG.out) 72).trans (aEU _ _ _))) ((refine aCA (by rfl) _ _ 39 39 (by rfl) _ _ _ _ (by rfl) (by rfl) HC.out ?_))
   obtain ⟨f1,ef⟩:∃ f1,f1=over f (fun j=>m (N+j)) p c:=⟨_,rfl⟩
   obtain ⟨W1,hW⟩:∃ W,W=wr.drew.setRow g (dg s (over f (fun j=>m (N+j)) p c) N):=⟨_,rfl⟩
   rw [←hW]
   have hg1:W1.heap[g]?=some (.cells (dg s f1 N) 151):=by rw [hW,ef];exact aA4 (w:=wr.drew) HG.out
   have hk1:Kept g w W1:=by rw [hW];exact (HKP.out.drew).setRow _
   have c72:=aAs hg1 72
   rw [aEU] at c72
   have f72:=aAa hg1 72
   have HG1:=hid hg1
   have HK1:=hid hk1
   have HF:=hid ef
   clear cl HC hW hg1 hk1 ef
   have s1:(c:Int)≤(M:Int):=by omega
   have s2:(0:Int)≤(c:Int):=by omega
   have s3:(M:Int)≤(C:Int):=by have:=HE.out;omega
   have s4:(N:Int)+(c:Int) < 4611686018427387904:=by have:=HE.out;omega
   clear hA
   go_upto_region 4 with fail
   obtain ⟨A',hA',hA2⟩:∃ A:Addr,(if C=c then some (⟨b0,off+k,none⟩:Addr) else some ⟨b0,off+k+c,none⟩)=some A∧(c < M→A=⟨b0,off+k+c,none⟩):=by
    by_cases hCc:C=c
    ·rw [if_pos hCc];exact ⟨_,rfl,fun h=>absurd h (by omega)⟩
    ·rw [if_neg hCc];exact ⟨_,rfl,fun _=>rfl⟩
   rw [hA']
   have HA:=hid hA2
   clear hA' hA2
   obtain ⟨W2,hW2⟩:∃ W,W=W1.setCell ⟨g,72,none⟩ (.int .u64 ((N:Int)+(c:Int))):=⟨_,rfl⟩
   have hg2':W2.heap[g]?=some (.cells (dg s f1 ((N:Int)+(c:Int))) 151):=by
    rw [hW2]
    refine (aAI HG1.out 72 _).trans ?_
    rw [aKc]
   have hk2:Kept g w W2:=by rw [hW2];exact HK1.out.setCell 72 _
   have HG2:=hid hg2'
   have HKP2:=hid hk2
   have HR2:=hid hW2
   clear hg2' hk2 hW2
   by_cases hfull:p+c=64
   ·have q1:((N:Int)+(c:Int)) % 64=0:=by have:=HE.out;omega
    have hD:=HD.out.full (z:=fun j=>m (N+j)) c (by have:=HE.out;omega) (fun j hj=>rfl) (fun j hj=>by have h:=HE.out;have:=HR.out (k+j) (by omega);rw [show L+(k+j)=N+j by omega] at this;exact this)
    go_wp2
    rw [←HR2.out]
    have HFB:Hid (∀ i,i < 64→0≤f1 i∧f1 i < 256):=by rw [HF.out];have h:=HE.out;rw [h.2.1];exact hD.range
    have HSB:=hid HD.out.bd
    have HK2:Hid (Tab W2.drew 2 64 K):=HKP2.out.tab HK.out hg2
    have HGL:Hid (g < W2.drew.heap.size):=by
     show g < W2.heap.size
     exact (Array.getElem?_eq_some_iff.1 HG2.out).1
    have x0:=(aAs HG2.out 0).trans (aBE s f1 _ 0 (by omega))
    have x1:=(aAs HG2.out 1).trans (aBE s f1 _ 1 (by omega))
    have x2:=(aAs HG2.out 2).trans (aBE s f1 _ 2 (by omega))
    have x3:=(aAs HG2.out 3).trans (aBE s f1 _ 3 (by omega))
    have x4:=(aAs HG2.out 4).trans (aBE s f1 _ 4 (by omega))
    have x5:=(aAs HG2.out 5).trans (aBE s f1 _ 5 (by omega))
    have x6:=(aAs HG2.out 6).trans (aBE s f1 _ 6 (by omega))
    have x7:=(aAs HG2.out 7).trans (aBE s f1 _ 7 (by omega))
    have l40:=aIv (w:=W2.drew) HG2.out
    have l44:=aN0 (w:=W2.drew) HG2.out
    have HDD:=hid hD
    clear hD x0 x1 x2 x3 x4 x5 x6 x7
    go_region_with (go_at_call 110;refine (aJP K f1 s _ HFB.out HSB.out (HK2.out)).mono ?_;rintro e w1 ⟨rfl,hb1⟩;rw [vs8];have hg3:=(hb1.block g HGL.out).trans HG2.out;have y0:=(aAs hg3 0).trans (aBE s f1 _ 0 (by omega));have z0:=aAa hg3 0;have y1:=(aAs hg3 1).trans (aBE s f1 _ 1 (by omega));have z1:=aAa hg3 1;have y2:=(aAs hg3 2).trans (aBE s f1 _ 2 (by omega));have z2:=aAa hg3 2;have y3:=(aAs hg3 3).trans (aBE s f1 _ 3 (by omega));have z3:=aAa hg3 3;have y4:=(aAs hg3 4).trans (aBE s f1 _ 4 (by omega));have z4:=aAa hg3 4;have y5:=(aAs hg3 5).trans (aBE s f1 _ 5 (by omega));have z5:=aAa hg3 5;have y6:=(aAs hg3 6).trans (aBE s f1 _ 6 (by omega));have z6:=aAa hg3 6;have y7:=(aAs hg3 7).trans (aBE s f1 _ 7 (by omega));have z7:=aAa hg3 7)
    all_goals
     go_wp2
     obtain ⟨eN,ep,eM,eC⟩:=HE.out
     refine ⟨⟨k+c,aDR K f1 s,f1,A',by omega,?_,fun h=>?_,?_,?_,?_⟩,?_⟩
     ·rw [eM,eC,Nat.sub_sub,Nat.sub_sub]
     ·rw [HA.out (by omega)]
      congr 1
      omega
     ·rw [HF.out,ep,show L+(k+c)=N+c by omega]
      exact HDD.out
     ·rw [show ((L+(k+c):Nat):Int)=(N:Int)+(c:Int) by omega]
      exact (aTM hg3 _ _ _ _ _ _ _ _).trans (congrArg (fun c=>some (Obj.cells c 151)) (aKb s f1 (aDR K f1 s) _ _ _ _ _ _ _ _ _ rfl rfl rfl rfl rfl rfl rfl rfl))
     ·exact (((((((((HKP2.out.drew).trans (Kept.ofBelow hb1)).setCell 0 _).setCell 1 _).setCell 2 _).setCell 3 _).setCell 4 _).setCell 5 _).setCell 6 _).setCell 7 _
     ·show M - c < M
      omega
   ·have q1:(((N:Int)+(c:Int)) % 64 == 0)=false:=by have:=HE.out;simp;omega
    have hD:=HD.out.part (z:=fun j=>m (N+j)) c (by have:=HE.out;omega) (fun j hj=>rfl) (fun j hj=>by have h:=HE.out;have:=HR.out (k+j) (by omega);rw [show L+(k+j)=N+j by omega] at this;exact this)
    have HDD:=hid hD
    clear hD
    go_wp2
    rw [←HR2.out]
    obtain ⟨eN,ep,eM,eC⟩:=HE.out
    refine ⟨⟨k+c,s,f1,A',by omega,?_,fun h=>?_,?_,?_,HKP2.out⟩,?_⟩
    ·rw [eM,eC,Nat.sub_sub,Nat.sub_sub]
    ·rw [HA.out (by omega)]
     congr 1
     omega
    ·rw [HF.out,ep,show L+(k+c)=N+c by omega]
     exact HDD.out
    ·rw [show ((L+(k+c):Nat):Int)=(N:Int)+(c:Int) by omega]
     exact HG2.out
    ·show M - c < M
     omega
  ·go_wp2
   have ek:k=len:=by omega
   subst ek
   refine bodyPost_end (results_none rfl _ _ _) rfl ?_
   exact ⟨rfl,hkept,s,f,hd,hg⟩
end
section
open Go.RowKit
set_option linter.unusedVariables false
theorem aMj:∀ w:World,(zeroValue 151).run Tryz.prog w=.ok (.agg (dg (fun _=>0) (fun _=>0) 0)) w:=(zero_of_info (n:=73) (by kernel_rfl)).1
theorem aQO:∀ w:World,(zeroValue 170).run Tryz.prog w=.ok (.agg (vs .u8 72 fun _=>0)) w:=(zero_of_info (n:=72) (by kernel_rfl)).1
set_option maxRecDepth 20000 in
set_option maxHeartbeats 1000000 in
theorem aHL (H : Nat → Int) (w : World) (hH : Tab w 0 8 H) :
    Calls Tryz.prog 81 #[] w fun e w'=>e=.returned (.pointer (some ⟨w.heap.size,0,none⟩))∧w'=w.alloc (.cells (dg H (fun _=>0) 0) 151):=by
 have h0:=hH.2 0 (by omega)
 have h1:=hH.2 1 (by omega)
 have h2:=hH.2 2 (by omega)
 have h3:=hH.2 3 (by omega)
 have h4:=hH.2 4 (by omega)
 have h5:=hH.2 5 (by omega)
 have h6:=hH.2 6 (by omega)
 have h7:=hH.2 7 (by omega)
 have z:=aMj
 have e:=aKb (fun _=>0) (fun _=>0) H 0 (H 0) (H 1) (H 2) (H 3) (H 4) (H 5) (H 6) (H 7) rfl rfl rfl rfl rfl rfl rfl rfl
 have sz:=aBm (fun _=>0) (fun _=>0) 0
 clear hH
 go_enter Tryz.func81,Tryz.ntmps81
 go_wp2
 go_ret
 exact ⟨rfl,rfl⟩
def aEL (L:Nat):Nat:=1+(119 - L % 64) % 64
def aPs (L i:Nat):Int:=8*(L:Int) / 2 ^ (8*(7 - i)) % 256
def aN8 (L j:Nat):Int:=if j=0 then 128 else if j < aEL L then 0 else aPs L (j - aEL L)
def aG7 (m:Nat→Int) (L i:Nat):Int:=if i < L then m i else aN8 L (i - L)
def aGS (L:Nat):Nat:=L+aEL L+8
theorem aEs (L:Nat):1≤aEL L∧aEL L≤64∧(L+aEL L) % 64=56:=by unfold aEL;omega
theorem aPt (L i:Nat):0≤aPs L i∧aPs L i < 256:=by unfold aPs;omega
theorem aKU (L j:Nat):0≤aN8 L j∧aN8 L j < 256:=by
 unfold aN8
 by_cases h:j=0
 ·rw [if_pos h];omega
 ·rw [if_neg h]
  by_cases h2:j < aEL L
  ·rw [if_pos h2];omega
  ·rw [if_neg h2];exact aPt _ _
def aPI (L k j:Nat):Int:=if j=0 then 128 else if j < aEL L then 0 else if j < aEL L+k then aPs L (j - aEL L) else 0
theorem aN9 (L k:Nat) (v:Int) (hv:v=aPs L k):vs .u8 72 (fun j=>if j=aEL L+k then v else aPI L k j)=vs .u8 72 (aPI L (k+1)):=by
 have hz:=aEs L
 refine aAO fun j _=>?_
 unfold aPI
 by_cases h:j=aEL L+k
 ·rw [if_pos h,if_neg (by omega),if_neg (by omega),if_pos (by omega),h,hv]
  congr 1
  omega
 ·rw [if_neg h]
  by_cases h0:j=0
  ·rw [if_pos h0,if_pos h0]
  ·rw [if_neg h0,if_neg h0]
   by_cases h1:j < aEL L
   ·rw [if_pos h1,if_pos h1]
   ·rw [if_neg h1,if_neg h1]
    by_cases h2:j < aEL L+k
    ·rw [if_pos h2,if_pos (by omega)]
    ·rw [if_neg h2,if_neg (by omega)]
theorem aF9 (m:Nat→Int) (L j:Nat):aG7 m L (L+j)=aN8 L j:=by
 unfold aG7
 rw [if_neg (by omega),show L+j - L=j by omega]
theorem aS7 (L j:Nat) (hj:j < aEL L+8):aPI L 8 j=aN8 L j:=by
 unfold aPI aN8
 by_cases h0:j=0
 ·rw [if_pos h0,if_pos h0]
 ·rw [if_neg h0,if_neg h0]
  by_cases h1:j < aEL L
  ·rw [if_pos h1,if_pos h1]
  ·rw [if_neg h1,if_neg h1,if_pos hj]
set_option maxRecDepth 20000 in
set_option maxHeartbeats 2000000 in
theorem aPJ (K H m : Nat → Int) (g : Nat) (s f : Nat → Int) (L : Nat) (w : World) (hd : Dig K H m L s f) (hg : w.heap[g]? = some (.cells (dg s f L) 151)) (hK : Tab w 2 64 K) (hg2 : (2 : Nat) ≠ g) (hL : L < 1152921504606846976) :
    Calls Tryz.prog 111 #[.pointer (some ⟨g,0,none⟩)] w fun e w'=>e=.returned (.tuple #[])∧Kept g w w'∧∃ s' f',Dig K H (aG7 m L) (aGS L) s' f'∧w'.heap[g]?=some (.cells (dg s' f' (aGS L:Nat)) 151):=by
 have c72:=aAs hg 72
 rw [aEU] at c72
 obtain ⟨p,ep⟩:∃ p,p=L % 64:=⟨_,rfl⟩
 have r1:(L:Int) % 64=(p:Int):=by omega
 obtain ⟨z,ez⟩:∃ z,z=aEL L:=⟨_,rfl⟩
 have hz:=aEs L
 rw [←ez] at hz
 have r2:(1:Int)+(119 - (p:Int)) % 64=(z:Int):=by rw [ez];unfold aEL;omega
 have hgl:g < w.heap.size:=(Array.getElem?_eq_some_iff.1 hg).1
 have p1:(p:Int) < 64:=by omega
 have p2:(0:Int)≤(p:Int):=by omega
 have HD:=hid hd
 have HG:=hid hg
 have HK:=hid hK
 have HE:=hid (And.intro ep ez)
 have zv:=aQO
 clear hd hg hK ep ez
 go_enter Tryz.func111,Tryz.ntmps111
 go_wp2
 go_loopw [20] (fun i wr=>∃ k:Nat,k≤8∧i=.int .u64 k∧Below w.heap.size w wr∧wr.heap.size=w.heap.size+1∧wr.heap[w.heap.size]?=some (.cells (vs .u8 72 (aPI L k)) 170)) (fun i _=>8 - (intOf i).toNat)
 case atStart =>
  refine ⟨0,by omega,rfl,?_,by simp,?_⟩
  ·go_grown
  ·refine (aA2 rfl).trans ?_
   rw [aBZ]
   refine congrArg (fun c=>some (Obj.cells c 170)) (aAO fun j _=>?_)
   unfold aPI
   by_cases h0:j=0
   ·rw [if_pos h0,if_pos h0]
   ·rw [if_neg h0,if_neg h0]
    by_cases h1:j < aEL L
    ·rw [if_pos h1]
    ·rw [if_neg h1,if_neg (by omega)]
 case round =>
  obtain ⟨k,hk,rfl,hB,hsz,r⟩:=hrel
  by_cases hlt:k < 8
  ·have cs:=aA8 r (z+k) (by omega)
   have fs:=aAa r (z+k)
   have R:=hid r
   have HB:=hid hB
   have HSZ:=hid hsz
   clear r hB hsz
   have k1:(0:Int)≤(k:Int):=by omega
   have k2:(k:Int) < 8:=by omega
   have k3:(z:Int)+(k:Int) < 72:=by omega
   have k4:((z:Int)+(k:Int)).toNat=z+k:=by omega
   go_wp2
   go_roundw
   case rel =>
    refine ⟨k+1,by omega,by go_num,HB.out.setCell (by simp) _,(aFH _ _ _).trans HSZ.out,?_⟩
    refine (aAI R.out (z+k) _).trans ?_
    rw [aBZ,HE.out.2]
    exact congrArg (fun c=>some (Obj.cells c 170)) (aN9 L k _ rfl)
   case measure=>simp [intOf];omega
  ·have ek:k=8:=by omega
   subst ek
   have ez:=HE.out.2
   have hd':Dig K H (aG7 m L) L s f:=HD.out.congr fun i hi=>by unfold aG7;rw [if_pos hi]
   have hw:=aCS K H (aG7 m L) g s f L (z+8) 72 w.heap.size 0 wr hd' ((hB.block g hgl).trans HG.out) (HK.out.below hB) hg2
    (fun j hj=>by rw [Nat.zero_add,aA8 r j (by omega),aF9,aS7 L j (by omega)])
    (fun j hj=>by rw [aF9];exact aKU _ _) (by omega) (by omega) (by omega) (by omega) (by omega)
   have HW:=hid hw
   have HB:=hid hB
   have z1:(0:Int)≤(z:Int)+8:=by omega
   have z2:(z:Int)+8≤72:=by omega
   have z3:((z:Int)+8).toNat=z+8:=by omega
   have z4:z+8≤72:=by omega
   clear hw hB r hsz hk hlt hd' ez
   rw [show ((8:Nat):Int)=8 from rfl]
   go_wp2_with (go_at_call 82;refine HW.out.mono ?_;rintro e w' ⟨rfl,hkp,s',f',hd2,hg3⟩)
   have e:L+(z+8)=aGS L:=by rw [HE.out.2];unfold aGS;omega
   rw [e] at hd2 hg3
   refine bodyPost_end (results_none rfl _ _ _) rfl ?_
   exact ⟨rfl,(Kept.ofBelow HB.out).trans hkp,s',f',hd2,hg3⟩
end
section
open Go.RowKit
set_option linter.unusedVariables false
def rbt (s:Nat→Int) (j:Nat):Int:=s (j / 4) / (2 ^ (24 - 8*(j % 4))) % 256
theorem aSl (s:Nat→Int) (j:Nat):0≤rbt s j∧rbt s j < 256:=by unfold rbt;omega
theorem aVM (s:Nat→Int) (k:Nat):rbt s (4*k)=s k / 16777216 % 256:=by
 unfold rbt
 rw [show 4*k / 4=k by omega,show 4*k % 4=0 by omega]
 rfl
theorem aVN (s:Nat→Int) (k:Nat):rbt s (4*k+1)=s k / 65536 % 256:=by
 unfold rbt
 rw [show (4*k+1) / 4=k by omega,show (4*k+1) % 4=1 by omega]
 rfl
theorem aVO (s:Nat→Int) (k:Nat):rbt s (4*k+2)=s k / 256 % 256:=by
 unfold rbt
 rw [show (4*k+2) / 4=k by omega,show (4*k+2) % 4=2 by omega]
 rfl
theorem aVP (s:Nat→Int) (k:Nat):rbt s (4*k+3)=s k % 256:=by
 unfold rbt
 rw [show (4*k+3) / 4=k by omega,show (4*k+3) % 4=3 by omega]
 simp
theorem ix8 (s:Nat→Int) (k:Nat) (hk:k < 8) (w:World):(Instr.index 139 (.agg (vs .u32 8 s)) (.int .i64 k)).run Tryz.prog w=.ok (.int .u32 (s k)) w:=by
 have h1:(0:Int)≤(k:Int)∧(k:Int) < ((8:Nat):Int):=by omega
 simp [Instr.index,run_underlying Tryz.underlying139,asIntOf,part,aBB _ _ _ _ hk,hk]
theorem aLI (g : Nat → Int) (k : Nat) (n : Nat) (v0 v1 v2 v3 : Int) (h0 : v0 = g (4 * k)) (h1 : v1 = g (4 * k + 1)) (h2 : v2 = g (4 * k + 2)) (h3 : v3 = g (4 * k + 3)) :
    ((((vs .u8 n fun j=>if j < 4*k then g j else 0).setIfInBounds (4*k) (.int .u8 v0)).setIfInBounds (4*k+1) (.int .u8 v1)).setIfInBounds (4*k+2) (.int .u8 v2)).setIfInBounds (4*k+3) (.int .u8 v3)=vs .u8 n fun j=>if j < 4*(k+1) then g j else 0:=by
 rw [aBZ,aBZ,aBZ,aBZ]
 refine aAO fun i _=>?_
 by_cases e3:i=4*k+3
 ·subst e3;simp [h3,show 4*k+3 < 4*(k+1) by omega]
 ·by_cases e2:i=4*k+2
  ·subst e2;simp [h2,show 4*k+2 < 4*(k+1) by omega]
  ·by_cases e1:i=4*k+1
   ·subst e1;simp [h1,show 4*k+1 < 4*(k+1) by omega]
   ·by_cases e0:i=4*k
    ·subst e0;simp [h0,show 4*k < 4*(k+1) by omega]
    ·by_cases hl:i < 4*k
     ·simp [e0,e1,e2,e3,hl,show i < 4*(k+1) by omega]
     ·simp [e0,e1,e2,e3,hl,show ¬ i < 4*(k+1) by omega]
theorem aVQ {w : World} {b : Nat} {c : Array Value} {t : TypeId} (h : w.heap[b]? = some (.cells c t)) (i j k l : Nat) (u v x y : Value) :
    ((((w.setCell ⟨b,i,none⟩ u).setCell ⟨b,j,none⟩ v).setCell ⟨b,k,none⟩ x).setCell ⟨b,l,none⟩ y).heap[b]?=some (.cells ((((c.setIfInBounds i u).setIfInBounds j v).setIfInBounds k x).setIfInBounds l y) t) :=
 aAI (aAI (aAI (aAI h i u) j v) k x) l y
theorem aS6 {w : World} {b b' : Nat} (hb : b' ≠ b) (i j k l : Nat) (u v x y : Value) :
    ((((w.setCell ⟨b,i,none⟩ u).setCell ⟨b,j,none⟩ v).setCell ⟨b,k,none⟩ x).setCell ⟨b,l,none⟩ y).heap[b']?=w.heap[b']? :=
 (aAK hb).trans ((aAK hb).trans ((aAK hb).trans (aAK hb)))
theorem aTP {w : World} {b : Nat} (i j k l : Nat) (u v x y : Value) :
    ((((w.setCell ⟨b,i,none⟩ u).setCell ⟨b,j,none⟩ v).setCell ⟨b,k,none⟩ x).setCell ⟨b,l,none⟩ y).heap.size=w.heap.size:=by simp only [aFH]
set_option maxRecDepth 20000 in
set_option maxHeartbeats 2000000 in
theorem aJs (s : Nat → Int) (w : World) (hs : ∀ i, i < 8 → 0 ≤ s i ∧ s i < 4294967296) :
    Calls Tryz.prog 112 #[.agg (vs .u32 8 s)] w fun e w'=>e=.returned (.agg (vs .u8 32 (rbt s)))∧Below w.heap.size w w':=by
 have HSS:=hid hs
 have IX:∀ k:Nat,k < 8→∀ w:World,(Instr.index 139 (.agg #[.int .u32 (s 0),.int .u32 (s 1),.int .u32 (s 2),.int .u32 (s 3),.int .u32 (s 4),.int .u32 (s 5),.int .u32 (s 6),.int .u32 (s 7)]) (.int .i64 k)).run Tryz.prog w=.ok (.int .u32 (s k)) w:=fun k hk w=>ix8 s k hk w
 have HIX:=hid IX
 rw [vs8]
 clear hs IX
 go_enter Tryz.func112,Tryz.ntmps112
 go_wp2
 go_loopw [7] (fun i wr=>∃ k:Nat,k≤8∧i=.int .i64 k∧Below w.heap.size w wr∧wr.heap.size=w.heap.size+3∧wr.heap[w.heap.size+1]?=some (.cells (vs .u8 32 fun _=>0) 24)∧wr.heap[w.heap.size+1+1]?=some (.cells (vs .u8 32 fun j=>if j < 4*k then rbt s j else 0) 24)) (fun i _=>8 - (intOf i).toNat)
 case atStart =>
  refine ⟨0,by omega,rfl,?_,?_,?_,?_⟩
  ·go_grown
  ·simp
  ·exact (aAc (by simp)).trans ((aA2 (by simp)))
  ·exact aA2 (by simp)
 case round =>
  obtain ⟨k,hk,rfl,hB,hz,r1,r2⟩:=hrel
  by_cases hlt:k < 8
  ·obtain ⟨x0,x1⟩:=HSS.out k hlt
   have hix:=HIX.out k hlt
   have q0:=aVM s k
   have q1:=aVN s k
   have q2:=aVO s k
   have q3:=aVP s k
   generalize s k=x at hix x0 x1 q0 q1 q2 q3
   have Q:=hid (And.intro q0 (And.intro q1 (And.intro q2 q3)))
   clear q0 q1 q2 q3
   have cs0:=aA8 r2 (4*k) (by omega)
   have cs1:=aA8 r2 (4*k+1) (by omega)
   have cs2:=aA8 r2 (4*k+2) (by omega)
   have cs3:=aA8 r2 (4*k+3) (by omega)
   have fs0:=aAa r2 (4*k)
   have fs1:=aAa r2 (4*k+1)
   have fs2:=aAa r2 (4*k+2)
   have fs3:=aAa r2 (4*k+3)
   have R1:=hid r1
   have R2:=hid r2
   have HZ:=hid hz
   have HB:=hid hB
   clear r1 r2 hz hB
   have b1:(0:Int)≤(k:Int):=by omega
   have b2:(k:Int) < 8:=by omega
   have t0:(4*(k:Int)).toNat=4*k:=by omega
   have t1:(4*(k:Int)+1).toNat=4*k+1:=by omega
   have t2:(4*(k:Int)+2).toNat=4*k+2:=by omega
   have t3:(4*(k:Int)+3).toNat=4*k+3:=by omega
   go_wp2
   go_roundw
   case rel =>
    obtain ⟨q0,q1,q2,q3⟩:=Q.out
    have hq:w.heap.size≤w.heap.size+1+1:=by omega
    refine ⟨k+1,by omega,by go_num,?_,?_,?_,?_⟩
    ·exact (((HB.out.setCell hq _).setCell hq _).setCell hq _).setCell hq _
    ·exact (aTP _ _ _ _ _ _ _ _).trans HZ.out
    ·exact (aS6 (by omega) _ _ _ _ _ _ _ _).trans R1.out
    ·refine (aVQ R2.out _ _ _ _ _ _ _ _).trans ?_
     exact congrArg (fun c=>some (Obj.cells c 24)) (aLI (rbt s) k 32 _ _ _ _ (by rw [q0];omega) q1.symm q2.symm q3.symm)
   case measure=>simp [intOf];omega
  ·have ek:k=8:=by omega
   subst ek
   have ev:vs .u8 32 (fun j=>if j < 4*8 then rbt s j else 0)=vs .u8 32 (rbt s):=aAO fun i hi=>by rw [if_pos (by omega)]
   rw [ev] at r2
   have RL:=hid (aBh (P:=Tryz.prog) (aA4 (c:=vs .u8 32 (rbt s)) r1) 24 _ Tryz.underlying24 rfl (by rw [aAp];kernel_rfl))
   have HL:=hid (aBh (P:=Tryz.prog) r2 24 _ Tryz.underlying24 rfl (by rw [aAp];kernel_rfl))
   have HS:=hid (aFh (P:=Tryz.prog) r1 24 (vs .u8 32 (rbt s)) (by rw [aAp];kernel_rfl) (by simp [aAp]) (aCB _ _ _))
   have R1:=hid r1
   have HB:=hid hB
   clear r1 r2 hz hB hk hlt ev
   go_wp2_with (first
    | (refine aCv (by rfl) 24 _ (by rfl) _ _ (by rfl) HL.out ?_)
    | (refine aCn (by rfl) 24 _ _ (by rfl) _ _ (by rfl) (by rfl) (by rfl) HS.out ?_)
    | (refine bodyPost_ret (aBI (by rfl) _ _ (w.heap.size + 1) _ (by rfl) RL.out) (by rfl) ?_))
   exact aA6 HB.out (by omega) _
end
section
open Go.RowKit
set_option linter.unusedVariables false
def aCH (K H m:Nat→Int) (L:Nat):Nat→Int:=rbt (hsh K H (aG7 m L) (aGS L / 64))
theorem aBU (K H m:Nat→Int) (L j:Nat):0≤aCH K H m L j∧aCH K H m L j < 256:=aSl _ _
theorem aJl {m m':Nat→Int} {L:Nat} (h:∀ i,i < L→m i=m' i) (i:Nat):aG7 m L i=aG7 m' L i:=by
 unfold aG7
 by_cases hi:i < L
 ·rw [if_pos hi,if_pos hi,h i hi]
 ·rw [if_neg hi,if_neg hi]
theorem aJD {K H m m':Nat→Int} {L:Nat} (h:∀ i,i < L→m i=m' i) (j:Nat) (hj:j < 32):aCH K H m L j=aCH K H m' L j:=by
 unfold aCH rbt
 rw [aGI (aGS L / 64) (fun i _=>aJl h i) (j / 4) (by omega)]
theorem aRm (s f:Nat→Int) (n:Int):(dg s f n).all (·.oneCell')=true:=by
 unfold dg
 rw [Array.all_append,Array.all_append,aCB,aCB]
 simp
 rfl
theorem aPa {K H m:Nat→Int} {L:Nat} {s f:Nat→Int} (h:Dig K H (aG7 m L) (aGS L) s f):vs .u8 32 (rbt s)=vs .u8 32 (aCH K H m L) :=
 aAO fun j hj=>by
  unfold aCH rbt
  rw [h.words (j / 4) (by omega)]
def aVa (a:Addr):Sem Value:=loadVar 151 a
def aVi (a:Addr) (v:Value):Sem Unit:=storeVar 151 a v
theorem aPy (a:Addr):loadVar 151 a=aVa a:=rfl
theorem aQp (a:Addr) (v:Value):storeVar 151 a v=aVi a v:=rfl
theorem aN1 {w:World} {g:Nat} {s f:Nat→Int} {n:Int} {t:TypeId} (h:w.heap[g]?=some (.cells (dg s f n) t)):(aVa ⟨g,0,none⟩).run Tryz.prog w=.ok (.agg (dg s f n)) w :=
 aAP (aBh h 151 _ Tryz.underlying151 rfl (by rw [aBm];kernel_rfl))
theorem aNA (W:World) (s f s' f':Nat→Int) (n n':Int):(aVi ⟨W.heap.size,0,none⟩ (.agg (dg s f n))).run Tryz.prog (W.alloc (.cells (dg s' f' n') 151))=.ok () (W.alloc (.cells (dg s f n) 151)) :=
 run_storeVar_new W 151 _ _ (by rw [aBm];kernel_rfl) (by rw [aBm,aBm]) (aRm _ _ _)
def aOK (a:Addr) (v:Value):Sem Unit:=storeVar 24 a v
theorem aAu (a:Addr) (v:Value):storeVar 24 a v=aOK a v:=rfl
def aDZ (a:Addr):Sem Value:=loadVar 24 a
theorem aAt (a:Addr):loadVar 24 a=aDZ a:=rfl
theorem aAv {w:World} {b:Nat} {o:Nat→Int} {t:TypeId} (h:w.heap[b]?=some (.cells (vs .u8 32 o) t)) (c:Nat→Int):(aOK ⟨b,0,none⟩ (.agg (vs .u8 32 c))).run Tryz.prog w=.ok () (w.setRow b (vs .u8 32 c)) :=
 run_storeVar_row w b t 24 _ _ h (by rw [aAp];kernel_rfl) (by rw [aAp,aAp]) (aCB _ _ _)
theorem aAU {w:World} {b:Nat} {c:Nat→Int} {t:TypeId} (h:w.heap[b]?=some (.cells (vs .u8 32 c) t)):(aDZ ⟨b,0,none⟩).run Tryz.prog w=.ok (.agg (vs .u8 32 c)) w :=
 aAP (aBh h 24 _ Tryz.underlying24 rfl (by rw [aAp];kernel_rfl))
theorem aC4 {fn : Func} {R : Ending → World → Prop} {a : Act} {w' : World} (t : Tmp) (b : Nat) (c : Nat → Int) (ty : TypeId) (h : fn.results = #[.cell t 24]) (hd : a.defers = []) (ht : a.tmps.getD t undef = .pointer (some ⟨b, 0, none⟩)) (hr : w'.heap[b]? = some (.cells (vs .u8 32 c) ty))
    (hR:R (.returned (.agg (vs .u8 32 c))) w'):bodyPost Tryz.prog fn R .ret a w' :=
 bodyPost_ret (aBI h a.tmps _ b _ ht (aBh hr 24 _ Tryz.underlying24 rfl (by rw [aAp];kernel_rfl))) hd hR
attribute [local go_sem ↓] aPy aQp aHF aAu aAt
set_option maxRecDepth 20000 in
set_option maxHeartbeats 400000 in
theorem aFT (K H m : Nat → Int) (g : Nat) (s f : Nat → Int) (L : Nat) (w : World) (hd : Dig K H m L s f) (hg : w.heap[g]? = some (.cells (dg s f L) 151)) (hK : Tab w 2 64 K) (hL : L < 1152921504606846976) :
    Calls Tryz.prog 83 #[.pointer (some ⟨g,0,none⟩)] w fun e w'=>e=.returned (.agg (vs .u8 32 (aCH K H m L)))∧Below w.heap.size w w':=by
 have hgl:g < w.heap.size:=(Array.getElem?_eq_some_iff.1 hg).1
 have h2:2 < w.heap.size:=hK.1
 have HD:=hid hd
 have HG:=hid hg
 have HK:=hid hK
 have zv:=aMj
 have HDL:=hid hL
 clear hd hg hK
 go_enter Tryz.func83,Tryz.ntmps83
 go_upto_region 3 with fail
 change Code.wp _ _ _ _ (w.alloc (.cells (vs .u8 32 fun _=>0) 24))
 obtain ⟨W0,hW0⟩:∃ W,w.alloc (.cells (vs .u8 32 fun _=>0) 24)=W:=⟨_,rfl⟩
 rw [hW0]
 have s0:W0.heap.size=w.heap.size+1:=by rw [←hW0];simp
 have hB0:Below w.heap.size w W0:=by rw [←hW0];go_grown
 have r0:W0.heap[w.heap.size]?=some (.cells (vs .u8 32 fun _=>0) 24):=by rw [←hW0];exact aA2 rfl
 have l47:=aN1 ((hB0.block g hgl).trans HG.out)
 have v47:=aNA W0 s f (fun _=>0) (fun _=>0) L 0
 have HS0:=hid s0
 have HR0:=hid r0
 have HB0:=hid hB0
 clear hW0 s0 r0 hB0
 go_upto_region 4 with fail
 obtain ⟨W1,hW1⟩:∃ W,W0.alloc (.cells (dg s f L) 151)=W:=⟨_,rfl⟩
 rw [hW1]
 have g1:W1.heap[W0.heap.size]?=some (.cells (dg s f L) 151):=by rw [←hW1];exact aA2 rfl
 have hB1:Below W0.heap.size W0 W1:=by rw [←hW1];exact (Below.refl _ _).alloc (Nat.le_refl _) _
 have k1:Tab W1 2 64 K:=(HK.out.below HB0.out).below hB1
 obtain ⟨q,hq⟩:∃ q,W0.heap.size=q:=⟨_,rfl⟩
 have sq:q=w.heap.size+1:=by rw [←hq];exact HS0.out
 have r1:W1.heap[w.heap.size]?=some (.cells (vs .u8 32 fun _=>0) 24):=(hB1.block _ (by rw [HS0.out];omega)).trans HR0.out
 have z1:w.heap.size+1 < W1.heap.size:=by rw [←hW1];simp [hq];omega
 have HBW:Hid (Below w.heap.size w W1):=HB0.out.trans (hB1.mono (by rw [HS0.out];omega))
 have hp:=aPJ K H m q s f L W1 HD.out (by rw [←hq];exact g1) k1 (by omega) hL
 rw [hq]
 have HP:=hid hp
 have HR1:=hid r1
 have SQ:=hid sq
 clear sq hW1 g1 hB1 k1 hq r1 hp l47 v47
 go_upto_region 5 with (go_at_call 111;refine HP.out.mono ?_;rintro e w2 ⟨rfl,hkp,s',f',hd2,hg2⟩)
 have l40:=aIv hg2
 have z2:w.heap.size+1 < w2.heap.size:=Nat.lt_of_lt_of_le z1 hkp.size
 have r2:w2.heap[w.heap.size]?=some (.cells (vs .u8 32 fun _=>0) 24):=(hkp.block _ (by omega) (by have:=SQ.out;omega)).trans HR1.out
 have HR2:=hid r2
 have HKP:=hid hkp
 have HD2:=hid hd2
 clear hg2 r2 hkp hd2
 go_wp2_with (go_at_call 112;refine (aJs s' _ HD2.out.bd).mono ?_;rintro e w3 ⟨rfl,hb3⟩;have v24:=aAv ((hb3.block _ (by omega)).trans HR2.out) (rbt s'))
 have r3:=(hb3.block w.heap.size (by omega)).trans HR2.out
 refine aC4 2 w.heap.size (rbt s') 24 rfl rfl rfl (aA4 r3) ⟨by rw [aPa HD2.out],?_⟩
 have hq:=SQ.out
 exact aA6 ((HBW.out.trans (HKP.out.below (by omega) (by omega))).trans (hb3.mono (by omega))) (Nat.le_refl _) _
theorem aHv (K H m:Nat→Int) (hH:∀ i,i < 8→0≤H i∧H i < 4294967296):Dig K H m 0 H (fun _=>0) :=
 ⟨fun _ _=>rfl,fun j hj=>absurd hj (by omega),fun _ _=>by omega,hH⟩
end
section
open Go.RowKit
set_option linter.unusedVariables false
attribute [local go_sem ↓] aAu aAt
set_option maxRecDepth 20000 in
set_option maxHeartbeats 400000 in
theorem aHZ (K H m : Nat → Int) (len cap b0 off : Nat) (w : World) (hH : Tab w 0 8 H) (hK : Tab w 2 64 K) (hB : ∀ i, i < 8 → 0 ≤ H i ∧ H i < 4294967296)
    (hz:∀ j,j < len→w.cell? ⟨b0,off+j,none⟩=some (.int .u8 (m j))) (hr:∀ j,j < len→0≤m j∧m j < 256) (hb:b0 < w.heap.size) (hL:len < 1152921504606846976) (hc:len≤cap) (hc':cap≤9223372036854775807) :
    Calls Tryz.prog 113 #[.slice (some ⟨b0,off,none⟩) len cap] w fun e w'=>e=.returned (.agg (vs .u8 32 (aCH K H m len)))∧Below w.heap.size w w':=by
 have HHH:=hid hH
 have HK:=hid hK
 have HBD:=hid hB
 have HZ:=hid hz
 have HR:=hid hr
 clear hH hK hB hz hr
 go_enter Tryz.func113,Tryz.ntmps113
 go_upto_region 1 with fail
 change Code.wp _ _ _ _ (w.alloc (.cells (vs .u8 32 fun _=>0) 24))
 obtain ⟨W0,hW0⟩:∃ W,w.alloc (.cells (vs .u8 32 fun _=>0) 24)=W:=⟨_,rfl⟩
 rw [hW0]
 have s0:W0.heap.size=w.heap.size+1:=by rw [←hW0];simp
 have hB0:Below w.heap.size w W0:=by rw [←hW0];go_grown
 have r0:W0.heap[w.heap.size]?=some (.cells (vs .u8 32 fun _=>0) 24):=by rw [←hW0];exact aA2 rfl
 obtain ⟨W1,hW1⟩:∃ W,W0.alloc (.cells (dg H (fun _=>0) 0) 151)=W:=⟨_,rfl⟩
 have g1:W1.heap[W0.heap.size]?=some (.cells (dg H (fun _=>0) ((0:Nat):Int)) 151):=by rw [←hW1];exact aA2 rfl
 have hB1:Below W0.heap.size W0 W1:=by rw [←hW1];exact (Below.refl _ _).alloc (Nat.le_refl _) _
 have hn:=aHL H W0 (HHH.out.below hB0)
 rw [hW1] at hn
 have hBw:Below w.heap.size w W1:=hB0.trans (hB1.mono (by omega))
 have z1:W0.heap.size < W1.heap.size:=by rw [←hW1];simp
 have hk0:=HK.out.1
 have hw:=aCS K H m W0.heap.size H (fun _=>0) 0 len cap b0 off W1 (aHv K H m HBD.out) g1 (HK.out.below hBw) (by omega)
  (fun j hj=>by rw [aAk hBw hb,HZ.out j hj,Nat.zero_add]) (fun j hj=>by rw [Nat.zero_add];exact HR.out j hj) (by omega) (by omega) (by omega) hc hc'
 rw [Nat.zero_add] at hw
 have r1:=(hB1.block w.heap.size (by omega)).trans r0
 have HN:=hid hn
 have HW:=hid hw
 have HR1:=hid r1
 have HB1:=hid hBw
 have HK1:=hid (HK.out.below hBw)
 have HZ1:=hid (And.intro s0 z1)
 obtain ⟨q,hq⟩:∃ q,W0.heap.size=q:=⟨_,rfl⟩
 rw [hq] at HN HW HZ1
 clear hW0 s0 hB0 r0 hW1 g1 hB1 hn hw hBw r1 z1 hq
 go_upto_region 3 with (first
  | (go_at_call 81; refine HN.out.mono ?_; rintro e w1 ⟨rfl, rfl⟩)
  | (go_at_call 82; refine HW.out.mono ?_; rintro e w2 ⟨rfl, hkp, s', f', hd2, hg2⟩))
 have h1:=HZ1.out
 have hs:=aFT K H m q s' f' len w2 hd2 hg2 (hkp.tab HK1.out (by omega)) hL
 have r2:=(hkp.block w.heap.size (by omega) (by omega)).trans HR1.out
 have hB2:Below w.heap.size w w2:=HB1.out.trans (hkp.below (by omega) (by omega))
 have hz2:w.heap.size < w2.heap.size:=by have:=hkp.size;omega
 have HS:=hid hs
 have HR2:=hid r2
 have HB2:=hid hB2
 have HZ2:=hid hz2
 clear h1 hs r2 hB2 hz2 hg2 hd2 hkp
 go_wp2_with (go_at_call 83;refine HS.out.mono ?_;rintro e w3 ⟨rfl,hb3⟩;have v24:=aAv ((hb3.block _ HZ2.out).trans HR2.out) (aCH K H m len))
 refine aC4 2 w.heap.size _ 24 rfl rfl rfl (aA4 ((hb3.block _ HZ2.out).trans HR2.out)) ⟨rfl,?_⟩
 exact aA6 (HB2.out.trans (hb3.mono (Nat.le_of_lt HZ2.out))) (Nat.le_refl _) _
end
end Go.Proofs.YtdjplhibmomajaaGreatDoor
