/- A part. -/
import Derived.Test.YtfgmddnfhphdeaaGreatDoorQM
import Derived.Test.YtfgmddnfhphdeaaGreatDoorQI
import Derived.Test.YtfgmddnfhphdeaaGreatDoorQN
import Derived.Test.YtfgmddnfhphdeaaGreatDoorQH
import Derived.Maps.AppendAt
namespace Go.Proofs.YtfgmddnfhphdeaaGreatDoor
open Go.RowKit
set_option linter.unusedVariables false
set_option linter.unusedSimpArgs false
set_option maxRecDepth 20000
theorem vn_low {α:Type} (z:Nat→α) (n:Nat) (v:α) (j:Nat) (h:j < n):vnZ z n v j=z j:=if_pos h
theorem vn_top {α:Type} (z:Nat→α) (n:Nat) (v:α):vnZ z n v n=v:=if_neg (Nat.lt_irrefl n)
theorem flat_vn (z:Nat→VValidator) (n:Nat) (v:VValidator):flat (fun i=>celL (sValidator (z i))) n++celL (sValidator v)=flat (fun i=>celL (sValidator (vnZ z n v i))) (n+1):=by
 show _=flat (fun i=>celL (sValidator (vnZ z n v i))) n++celL (sValidator (vnZ z n v n))
 rw [vn_top,flat_same n fun i hi=>by show celL (sValidator (z i))=celL (sValidator (vnZ z n v i));rw [vn_low _ _ _ _ hi]]
theorem nl_vn (z:Nat→Int) (n:Nat) (v:Int):nl z n++[.int .u64 v]=nl (vnZ z n v) (n+1):=by
 unfold nl
 rw [List.range_succ,List.map_append]
 congr 1
 ·refine List.map_congr_left fun j hj=>?_
  rw [vn_low _ _ _ _ (List.mem_range.1 hj)]
 ·show _=[Value.int .u64 (vnZ z n v n)]
  rw [vn_top]
theorem bl_vn (z:Nat→Int) (n:Nat) (v:Int):bl z n++[.int .u8 v]=bl (vnZ z n v) (n+1):=by
 unfold bl
 rw [List.range_succ,List.map_append]
 congr 1
 ·refine List.map_congr_left fun j hj=>?_
  rw [vn_low _ _ _ _ (List.mem_range.1 hj)]
 ·show _=[Value.int .u8 (vnZ z n v n)]
  rw [vn_top]
theorem apart_grown {V:World} {B k n m c d:Nat} {t:TypeId} {a a0 b:Option Addr} {n0 c0:Nat} {xs:List Value} (ho:V.ownsRow B t k (.slice b m d) m xs) (h:(Value.slice a n c).ownBlock=(Value.slice a0 n0 c0).ownBlock∨(Value.slice a n c).ownBlock=some V.heap.size) (hd:∀ ad ad',a0=some ad→b=some ad'→ad.block≠ad'.block):∀ ad ad',a=some ad→b=some ad'→ad.block≠ad'.block:=by
 intro ad ad' h1 h2 e
 subst h1 h2
 rcases h with h | h
 ·obtain ⟨ad0,e1,e2⟩:=slice_own (a:=a0) (n:=n0) (c:=c0) (b:=ad.block) (by rw [←h];rfl)
  exact hd ad0 ad' e1 rfl (e2.trans e)
 ·have h3:=(ho.lt ad'.block rfl).2
  have h4:ad.block=V.heap.size:=by injection h
  omega
def KpL (y:Nat) (V W:World):Prop:=∀ k C t,V.heap[k]?=some (.cells C t)→74≠t→22≠t→5≠t→k≠y→W.heap[k]?=some (.cells C t)
theorem KpL.of {y:Nat} {V W:World} (h:Up V W):KpL y V W:=fun k C t hk _ _ _ _=>upR h hk
theorem KpL.trans {y:Nat} {V W X:World} (h:KpL y V W) (k:KpL y W X):KpL y V X:=fun i C t hi h1 h2 h3 hn=>k i C t (h i C t hi h1 h2 h3 hn) h1 h2 h3 hn
theorem src_num {w:World} {g:Nat} {v:Int} {t:TypeId} (h:w.heap[g]?=some (.cells #[.int .u64 v] t)):Src w 1 (some ⟨g,0,none⟩) 1 1 [.int .u64 v] :=
 ⟨(fun h=>by cases h),rfl,(fun u hu=>by rw [List.mem_singleton.1 hu];rfl),.inr ⟨g,0,rfl,some_lt h,(fun j u hj=>by
  have hlt:=(List.getElem?_eq_some_iff.1 hj).1
  obtain rfl:j=0:=by simpa using hlt
  rw [row_cell h]
  simpa using hj)⟩⟩
theorem src_byt {w:World} {g:Nat} {v:Int} {t:TypeId} (h:w.heap[g]?=some (.cells #[.int .u8 v] t)):Src w 1 (some ⟨g,0,none⟩) 1 1 [.int .u8 v] :=
 ⟨(fun h=>by cases h),rfl,(fun u hu=>by rw [List.mem_singleton.1 hu];rfl),.inr ⟨g,0,rfl,some_lt h,(fun j u hj=>by
  have hlt:=(List.getElem?_eq_some_iff.1 hj).1
  obtain rfl:j=0:=by simpa using hlt
  rw [row_cell h]
  simpa using hj)⟩⟩
theorem wp_app_is {P : Program} {o : Oper} {a : Act} {w : World} {K : Act → World → Prop} {Q : Exit → Act → World → Prop} (t : TypeId) (s x : Operand)
    (ho:o.op=.call { callee:=.builtin .append,args:=#[s,x],argTypes:=#[t,t] }) (ws wx v:Value) (w':World) (hs:a.eval s=ws) (hx:a.eval x=wx)
    (hrun:(Builtin.append_ #[t,t] o.type #[ws,wx]).run P w=.ok v w') (h:K (a.put o.dst v) w'):Oper.wp P o a w K Q:=by
 unfold Oper.wp execOp
 simp only [ho,resolve,invoke,builtin,Sem.run_bind,Sem.run_pure,Result.andThen_ok,List.map_toArray,List.map_cons,List.map_nil,hs,hx,hrun]
 exact h
theorem wpB_app_is {P : Program} {ops : Array Oper} {rest : List Oper} {o : Oper} {a : Act} {w : World} {Q : Exit → Act → World → Prop} (hgd : o.guard = none) (t : TypeId) (s x : Operand)
    (ho:o.op=.call { callee:=.builtin .append,args:=#[s,x],argTypes:=#[t,t] }) (ws wx v:Value) (w':World) (hs:a.eval s=ws) (hx:a.eval x=wx)
    (hrun:(Builtin.append_ #[t,t] o.type #[ws,wx]).run P w=.ok v w') (h:wpList P ops Q rest (a.put o.dst v) w'):wpList P ops Q (o :: rest) a w :=
 wpList_plain hgd fun K hK=>wp_app_is t s x ho ws wx v w' hs hx hrun (hK _ _ h)
theorem BK.ap11 {w V W : World} {y : Nat} {Y : VState} {a : Option Addr} {c : Nat} (v : VValidator) (h : BK w y V Y) (ho : W.ownsRow w.heap.size 74 86 (.slice a (Y.f11.n + 1) c) (Y.f11.n + 1) (flat (fun i => celL (sValidator (Y.f11.z i))) Y.f11.n ++ celL (sValidator v))) (hg : V.grownBy W (Value.ownBlock (.slice Y.f11.a Y.f11.n Y.f11.c))) :
    BK w y (W.setCell ⟨y,721,none⟩ (.slice a (Y.f11.n+1) c)) (mr11 Y a c v)∧(∃ u,W.cell? ⟨y,721,none⟩=some u)∧W.frozen? ⟨y,721,none⟩=false:=by
 have hne:some y≠Value.ownBlock (.slice Y.f11.a Y.f11.n Y.f11.c):=fun e=>own_ne h.cpd.o11 h.row (by decide) e.symm
 have hrow:W.heap[y]?=some (.cells (cel (sState Y)) 49):=(hg.block y (some_lt h.row) hne).trans h.row
 have hk:Kept y W (W.setCell ⟨y,721,none⟩ (.slice a (Y.f11.n+1) c)):=(Kept.refl y W).setCell _ _
 have hkw:Kept y w W:=⟨hg.os.trans h.kep.os,hg.tape.trans h.kep.tape,hg.output.trans h.kep.output,Nat.le_trans h.kep.size hg.size,fun k hk hn=>(hg.block k (Nat.lt_of_lt_of_le hk h.kep.size) (fun e=>by have:=(h.cpd.o11.lt k e.symm).1;omega)).trans (h.kep.block k hk hn)⟩
 rw [flat_vn] at ho
 have g11:=own_keptB ho hk (own_ne ho hrow (by decide))
 have p7:=own_grown h.cpd.o7 h.cpd.o11 hg (.inl (by decide))
 have g7:=own_keptB p7 hk (own_ne p7 hrow (by decide))
 have p9:=own_grown h.cpd.o9 h.cpd.o11 hg (.inl (by decide))
 have g9:=own_keptB p9 hk (own_ne p9 hrow (by decide))
 have p12:=own_grown h.cpd.o12 h.cpd.o11 hg (.inl (by decide))
 have g12:=own_keptB p12 hk (own_ne p12 hrow (by decide))
 have p15:=own_grown h.cpd.o15 h.cpd.o11 hg (.inl (by decide))
 have g15:=own_keptB p15 hk (own_ne p15 hrow (by decide))
 have p16:=own_grown h.cpd.o16 h.cpd.o11 hg (.inl (by decide))
 have g16:=own_keptB p16 hk (own_ne p16 hrow (by decide))
 have p21:=own_grown h.cpd.o21 h.cpd.o11 hg (.inl (by decide))
 have g21:=own_keptB p21 hk (own_ne p21 hrow (by decide))
 exact ⟨⟨hkw.trans hk,(row_set hrow 721 _).trans (congrArg (fun c=>some (Obj.cells c 49)) (st_11 Y a (Y.f11.n+1) c)),⟨g7,g9,g11,g12,g15,g16,g21,h.cpd.d15,h.cpd.d12⟩⟩,some_cell hrow (by omega),row_frozen hrow _⟩
theorem BK.at11 {w V : World} {y g : Nat} {X : VState} {t : TypeId} (h : BK w y V X) (hn : X.f11.n ≤ 65536) (v : VValidator) (hv : V.heap[g]? = some (.cells (cel (sValidator v)) t)) (ty : TypeId) :
    ∃ a c W,(Builtin.append_ #[36,36] ty #[.slice X.f11.a X.f11.n X.f11.c,.slice (some ⟨g,0,none⟩) 1 1]).run Tryz.prog V=.ok (.slice a (X.f11.n+1) c) W∧BK w y (W.setCell ⟨y,721,none⟩ (.slice a (X.f11.n+1) c)) (mr11 X a c v)∧(∃ u,W.cell? ⟨y,721,none⟩=some u)∧W.frozen? ⟨y,721,none⟩=false∧KpL y V W∧KpL y V (W.setCell ⟨y,721,none⟩ (.slice a (X.f11.n+1) c)):=by
 obtain ⟨i,hi,hz0,hz1,hz2⟩:=info_out (P:=Tryz.prog) (t:=74) (z:=.agg (cel (sValidator oValidator))) (s:=86) (b:=128) (by kernel_rfl)
 obtain ⟨q1,q2,q3,q4⟩:=src_cel (k:=86) rfl hv
 have hat0:∀ j u,(celL (sValidator v):List Value)[j]?=some u→V.cell? ((⟨g,0,none⟩:Addr).add j)=some u:=by
  rcases q4 with h0 | ⟨b,off,e,_,hr⟩
  ·omega
  ·cases e
   intro j u hj
   rw [addr_add]
   exact hr j u hj
 obtain ⟨v',W,hr,ho,hg,_,hat⟩:=run_append_own_at (P:=Tryz.prog) V w.heap.size 36 ty 74 i _ 86 128 Tryz.underlying36 hi hz0 hz1 hz2 (by kernel_rfl) (by omega) _ X.f11.n _ h.cpd.o11 ⟨g,0,none⟩ 1 1 (celL (sValidator v)) q2 hat0 q3 (by unfold maxLen;omega) (by omega) h.kep.size
 obtain ⟨a,c,rfl⟩:=owns_form ho
 obtain ⟨m1,m2,m3⟩:=h.ap11 v ho hg
 have hk0:KpL y V W:=fun k C t' hk h1 h2 h3 hy=>(hg.block k (some_lt hk) (fun e=>own_ne h.cpd.o11 hk h1 e.symm)).trans hk
 exact ⟨a,c,W,hr,m1,m2,m3,hk0,fun k C t' hk h1 h2 h3 hy=>(heap_set_other hy).trans (hk0 k C t' hk h1 h2 h3 hy)⟩
theorem BK.ap12 {w V W : World} {y : Nat} {Y : VState} {a : Option Addr} {c : Nat} (v : Int) (h : BK w y V Y) (ho : W.ownsRow w.heap.size 22 1 (.slice a (Y.f12.n + 1) c) (Y.f12.n + 1) (nl Y.f12.z Y.f12.n ++ [.int .u64 v])) (hg : V.grownBy W (Value.ownBlock (.slice Y.f12.a Y.f12.n Y.f12.c))) (hb : (Value.slice a (Y.f12.n + 1) c).ownBlock = (Value.slice Y.f12.a Y.f12.n Y.f12.c).ownBlock ∨ (Value.slice a (Y.f12.n + 1) c).ownBlock = some V.heap.size) :
    BK w y (W.setCell ⟨y,722,none⟩ (.slice a (Y.f12.n+1) c)) (mr12 Y a c v)∧(∃ u,W.cell? ⟨y,722,none⟩=some u)∧W.frozen? ⟨y,722,none⟩=false:=by
 have hne:some y≠Value.ownBlock (.slice Y.f12.a Y.f12.n Y.f12.c):=fun e=>own_ne h.cpd.o12 h.row (by decide) e.symm
 have hrow:W.heap[y]?=some (.cells (cel (sState Y)) 49):=(hg.block y (some_lt h.row) hne).trans h.row
 have hk:Kept y W (W.setCell ⟨y,722,none⟩ (.slice a (Y.f12.n+1) c)):=(Kept.refl y W).setCell _ _
 have hkw:Kept y w W:=⟨hg.os.trans h.kep.os,hg.tape.trans h.kep.tape,hg.output.trans h.kep.output,Nat.le_trans h.kep.size hg.size,fun k hk hn=>(hg.block k (Nat.lt_of_lt_of_le hk h.kep.size) (fun e=>by have:=(h.cpd.o12.lt k e.symm).1;omega)).trans (h.kep.block k hk hn)⟩
 rw [nl_vn] at ho
 have g12:=own_keptB ho hk (own_ne ho hrow (by decide))
 have p7:=own_grown h.cpd.o7 h.cpd.o12 hg (.inl (by decide))
 have g7:=own_keptB p7 hk (own_ne p7 hrow (by decide))
 have p9:=own_grown h.cpd.o9 h.cpd.o12 hg (.inl (by decide))
 have g9:=own_keptB p9 hk (own_ne p9 hrow (by decide))
 have p11:=own_grown h.cpd.o11 h.cpd.o12 hg (.inl (by decide))
 have g11:=own_keptB p11 hk (own_ne p11 hrow (by decide))
 have p15:=own_grown h.cpd.o15 h.cpd.o12 hg (.inl (by decide))
 have g15:=own_keptB p15 hk (own_ne p15 hrow (by decide))
 have p16:=own_grown h.cpd.o16 h.cpd.o12 hg (.inl (by decide))
 have g16:=own_keptB p16 hk (own_ne p16 hrow (by decide))
 have p21 := own_grown h.cpd.o21 h.cpd.o12 hg (.inr (fun b h1 h2 => by
     obtain ⟨ad,e1,e2⟩:=slice_own h1
     obtain ⟨ad',e3,e4⟩:=slice_own h2
     exact h.cpd.d12 ad' ad e3 e1 (e4.trans e2.symm)))
 have g21:=own_keptB p21 hk (own_ne p21 hrow (by decide))
 exact ⟨⟨hkw.trans hk,(row_set hrow 722 _).trans (congrArg (fun c=>some (Obj.cells c 49)) (st_12 Y a (Y.f12.n+1) c)),⟨g7,g9,g11,g12,g15,g16,g21,h.cpd.d15,apart_grown h.cpd.o21 hb h.cpd.d12⟩⟩,some_cell hrow (by omega),row_frozen hrow _⟩
theorem BK.at12 {w V : World} {y g : Nat} {X : VState} {t : TypeId} (h : BK w y V X) (hn : X.f12.n ≤ 65536) (v : Int) (hv : V.heap[g]? = some (.cells (#[.int .u64 v]) t)) (ty : TypeId) :
    ∃ a c W,(Builtin.append_ #[37,37] ty #[.slice X.f12.a X.f12.n X.f12.c,.slice (some ⟨g,0,none⟩) 1 1]).run Tryz.prog V=.ok (.slice a (X.f12.n+1) c) W∧BK w y (W.setCell ⟨y,722,none⟩ (.slice a (X.f12.n+1) c)) (mr12 X a c v)∧(∃ u,W.cell? ⟨y,722,none⟩=some u)∧W.frozen? ⟨y,722,none⟩=false∧KpL y V W∧KpL y V (W.setCell ⟨y,722,none⟩ (.slice a (X.f12.n+1) c)):=by
 obtain ⟨i,hi,hz0,hz1,hz2⟩:=info_out (P:=Tryz.prog) (t:=22) (z:=.int .u64 0) (s:=1) (b:=8) (by kernel_rfl)
 obtain ⟨q1,q2,q3,q4⟩:=src_num hv
 have hat0:∀ j u,([.int .u64 v]:List Value)[j]?=some u→V.cell? ((⟨g,0,none⟩:Addr).add j)=some u:=by
  rcases q4 with h0 | ⟨b,off,e,_,hr⟩
  ·omega
  ·cases e
   intro j u hj
   rw [addr_add]
   exact hr j u hj
 obtain ⟨v',W,hr,ho,hg,_,hat⟩:=run_append_own_at (P:=Tryz.prog) V w.heap.size 37 ty 22 i _ 1 8 Tryz.underlying37 hi hz0 hz1 hz2 (by kernel_rfl) (by omega) _ X.f12.n _ h.cpd.o12 ⟨g,0,none⟩ 1 1 ([.int .u64 v]) q2 hat0 q3 (by unfold maxLen;omega) (by omega) h.kep.size
 obtain ⟨a,c,rfl⟩:=owns_form ho
 obtain ⟨m1,m2,m3⟩:=h.ap12 v ho hg hat
 have hk0:KpL y V W:=fun k C t' hk h1 h2 h3 hy=>(hg.block k (some_lt hk) (fun e=>own_ne h.cpd.o12 hk h2 e.symm)).trans hk
 exact ⟨a,c,W,hr,m1,m2,m3,hk0,fun k C t' hk h1 h2 h3 hy=>(heap_set_other hy).trans (hk0 k C t' hk h1 h2 h3 hy)⟩
theorem BK.ap15 {w V W : World} {y : Nat} {Y : VState} {a : Option Addr} {c : Nat} (v : Int) (h : BK w y V Y) (ho : W.ownsRow w.heap.size 5 1 (.slice a (Y.f15.n + 1) c) (Y.f15.n + 1) (bl Y.f15.z Y.f15.n ++ [.int .u8 v])) (hg : V.grownBy W (Value.ownBlock (.slice Y.f15.a Y.f15.n Y.f15.c))) (hb : (Value.slice a (Y.f15.n + 1) c).ownBlock = (Value.slice Y.f15.a Y.f15.n Y.f15.c).ownBlock ∨ (Value.slice a (Y.f15.n + 1) c).ownBlock = some V.heap.size) :
    BK w y (W.setCell ⟨y,987,none⟩ (.slice a (Y.f15.n+1) c)) (mr15 Y a c v)∧(∃ u,W.cell? ⟨y,987,none⟩=some u)∧W.frozen? ⟨y,987,none⟩=false:=by
 have hne:some y≠Value.ownBlock (.slice Y.f15.a Y.f15.n Y.f15.c):=fun e=>own_ne h.cpd.o15 h.row (by decide) e.symm
 have hrow:W.heap[y]?=some (.cells (cel (sState Y)) 49):=(hg.block y (some_lt h.row) hne).trans h.row
 have hk:Kept y W (W.setCell ⟨y,987,none⟩ (.slice a (Y.f15.n+1) c)):=(Kept.refl y W).setCell _ _
 have hkw:Kept y w W:=⟨hg.os.trans h.kep.os,hg.tape.trans h.kep.tape,hg.output.trans h.kep.output,Nat.le_trans h.kep.size hg.size,fun k hk hn=>(hg.block k (Nat.lt_of_lt_of_le hk h.kep.size) (fun e=>by have:=(h.cpd.o15.lt k e.symm).1;omega)).trans (h.kep.block k hk hn)⟩
 rw [bl_vn] at ho
 have g15:=own_keptB ho hk (own_ne ho hrow (by decide))
 have p7:=own_grown h.cpd.o7 h.cpd.o15 hg (.inl (by decide))
 have g7:=own_keptB p7 hk (own_ne p7 hrow (by decide))
 have p9:=own_grown h.cpd.o9 h.cpd.o15 hg (.inl (by decide))
 have g9:=own_keptB p9 hk (own_ne p9 hrow (by decide))
 have p11:=own_grown h.cpd.o11 h.cpd.o15 hg (.inl (by decide))
 have g11:=own_keptB p11 hk (own_ne p11 hrow (by decide))
 have p12:=own_grown h.cpd.o12 h.cpd.o15 hg (.inl (by decide))
 have g12:=own_keptB p12 hk (own_ne p12 hrow (by decide))
 have p16 := own_grown h.cpd.o16 h.cpd.o15 hg (.inr (fun b h1 h2 => by
     obtain ⟨ad,e1,e2⟩:=slice_own h1
     obtain ⟨ad',e3,e4⟩:=slice_own h2
     exact h.cpd.d15 ad' ad e3 e1 (e4.trans e2.symm)))
 have g16:=own_keptB p16 hk (own_ne p16 hrow (by decide))
 have p21:=own_grown h.cpd.o21 h.cpd.o15 hg (.inl (by decide))
 have g21:=own_keptB p21 hk (own_ne p21 hrow (by decide))
 exact ⟨⟨hkw.trans hk,(row_set hrow 987 _).trans (congrArg (fun c=>some (Obj.cells c 49)) (st_15 Y a (Y.f15.n+1) c)),⟨g7,g9,g11,g12,g15,g16,g21,apart_grown h.cpd.o16 hb h.cpd.d15,h.cpd.d12⟩⟩,some_cell hrow (by omega),row_frozen hrow _⟩
theorem BK.at15 {w V : World} {y g : Nat} {X : VState} {t : TypeId} (h : BK w y V X) (hn : X.f15.n ≤ 65536) (v : Int) (hv : V.heap[g]? = some (.cells (#[.int .u8 v]) t)) (ty : TypeId) :
    ∃ a c W,(Builtin.append_ #[39,39] ty #[.slice X.f15.a X.f15.n X.f15.c,.slice (some ⟨g,0,none⟩) 1 1]).run Tryz.prog V=.ok (.slice a (X.f15.n+1) c) W∧BK w y (W.setCell ⟨y,987,none⟩ (.slice a (X.f15.n+1) c)) (mr15 X a c v)∧(∃ u,W.cell? ⟨y,987,none⟩=some u)∧W.frozen? ⟨y,987,none⟩=false∧KpL y V W∧KpL y V (W.setCell ⟨y,987,none⟩ (.slice a (X.f15.n+1) c)):=by
 obtain ⟨i,hi,hz0,hz1,hz2⟩:=info_out (P:=Tryz.prog) (t:=5) (z:=.int .u8 0) (s:=1) (b:=1) (by kernel_rfl)
 obtain ⟨q1,q2,q3,q4⟩:=src_byt hv
 have hat0:∀ j u,([.int .u8 v]:List Value)[j]?=some u→V.cell? ((⟨g,0,none⟩:Addr).add j)=some u:=by
  rcases q4 with h0 | ⟨b,off,e,_,hr⟩
  ·omega
  ·cases e
   intro j u hj
   rw [addr_add]
   exact hr j u hj
 obtain ⟨v',W,hr,ho,hg,_,hat⟩:=run_append_own_at (P:=Tryz.prog) V w.heap.size 39 ty 5 i _ 1 1 Tryz.underlying39 hi hz0 hz1 hz2 (by kernel_rfl) (by omega) _ X.f15.n _ h.cpd.o15 ⟨g,0,none⟩ 1 1 ([.int .u8 v]) q2 hat0 q3 (by unfold maxLen;omega) (by omega) h.kep.size
 obtain ⟨a,c,rfl⟩:=owns_form ho
 obtain ⟨m1,m2,m3⟩:=h.ap15 v ho hg hat
 have hk0:KpL y V W:=fun k C t' hk h1 h2 h3 hy=>(hg.block k (some_lt hk) (fun e=>own_ne h.cpd.o15 hk h3 e.symm)).trans hk
 exact ⟨a,c,W,hr,m1,m2,m3,hk0,fun k C t' hk h1 h2 h3 hy=>(heap_set_other hy).trans (hk0 k C t' hk h1 h2 h3 hy)⟩
theorem BK.ap16 {w V W : World} {y : Nat} {Y : VState} {a : Option Addr} {c : Nat} (v : Int) (h : BK w y V Y) (ho : W.ownsRow w.heap.size 5 1 (.slice a (Y.f16.n + 1) c) (Y.f16.n + 1) (bl Y.f16.z Y.f16.n ++ [.int .u8 v])) (hg : V.grownBy W (Value.ownBlock (.slice Y.f16.a Y.f16.n Y.f16.c))) (hb : (Value.slice a (Y.f16.n + 1) c).ownBlock = (Value.slice Y.f16.a Y.f16.n Y.f16.c).ownBlock ∨ (Value.slice a (Y.f16.n + 1) c).ownBlock = some V.heap.size) :
    BK w y (W.setCell ⟨y,988,none⟩ (.slice a (Y.f16.n+1) c)) (mr16 Y a c v)∧(∃ u,W.cell? ⟨y,988,none⟩=some u)∧W.frozen? ⟨y,988,none⟩=false:=by
 have hne:some y≠Value.ownBlock (.slice Y.f16.a Y.f16.n Y.f16.c):=fun e=>own_ne h.cpd.o16 h.row (by decide) e.symm
 have hrow:W.heap[y]?=some (.cells (cel (sState Y)) 49):=(hg.block y (some_lt h.row) hne).trans h.row
 have hk:Kept y W (W.setCell ⟨y,988,none⟩ (.slice a (Y.f16.n+1) c)):=(Kept.refl y W).setCell _ _
 have hkw:Kept y w W:=⟨hg.os.trans h.kep.os,hg.tape.trans h.kep.tape,hg.output.trans h.kep.output,Nat.le_trans h.kep.size hg.size,fun k hk hn=>(hg.block k (Nat.lt_of_lt_of_le hk h.kep.size) (fun e=>by have:=(h.cpd.o16.lt k e.symm).1;omega)).trans (h.kep.block k hk hn)⟩
 rw [bl_vn] at ho
 have g16:=own_keptB ho hk (own_ne ho hrow (by decide))
 have p7:=own_grown h.cpd.o7 h.cpd.o16 hg (.inl (by decide))
 have g7:=own_keptB p7 hk (own_ne p7 hrow (by decide))
 have p9:=own_grown h.cpd.o9 h.cpd.o16 hg (.inl (by decide))
 have g9:=own_keptB p9 hk (own_ne p9 hrow (by decide))
 have p11:=own_grown h.cpd.o11 h.cpd.o16 hg (.inl (by decide))
 have g11:=own_keptB p11 hk (own_ne p11 hrow (by decide))
 have p12:=own_grown h.cpd.o12 h.cpd.o16 hg (.inl (by decide))
 have g12:=own_keptB p12 hk (own_ne p12 hrow (by decide))
 have p15 := own_grown h.cpd.o15 h.cpd.o16 hg (.inr (fun b h1 h2 => by
     obtain ⟨ad,e1,e2⟩:=slice_own h1
     obtain ⟨ad',e3,e4⟩:=slice_own h2
     exact h.cpd.d15 ad ad' e1 e3 (e2.trans e4.symm)))
 have g15:=own_keptB p15 hk (own_ne p15 hrow (by decide))
 have p21:=own_grown h.cpd.o21 h.cpd.o16 hg (.inl (by decide))
 have g21:=own_keptB p21 hk (own_ne p21 hrow (by decide))
 exact ⟨⟨hkw.trans hk,(row_set hrow 988 _).trans (congrArg (fun c=>some (Obj.cells c 49)) (st_16 Y a (Y.f16.n+1) c)),⟨g7,g9,g11,g12,g15,g16,g21,fun ad ad' h1 h2 e=>apart_grown h.cpd.o15 hb (fun b b' e1 e2 q=>h.cpd.d15 b' b e2 e1 q.symm) ad' ad h2 h1 e.symm,h.cpd.d12⟩⟩,some_cell hrow (by omega),row_frozen hrow _⟩
theorem BK.at16 {w V : World} {y g : Nat} {X : VState} {t : TypeId} (h : BK w y V X) (hn : X.f16.n ≤ 65536) (v : Int) (hv : V.heap[g]? = some (.cells (#[.int .u8 v]) t)) (ty : TypeId) :
    ∃ a c W,(Builtin.append_ #[39,39] ty #[.slice X.f16.a X.f16.n X.f16.c,.slice (some ⟨g,0,none⟩) 1 1]).run Tryz.prog V=.ok (.slice a (X.f16.n+1) c) W∧BK w y (W.setCell ⟨y,988,none⟩ (.slice a (X.f16.n+1) c)) (mr16 X a c v)∧(∃ u,W.cell? ⟨y,988,none⟩=some u)∧W.frozen? ⟨y,988,none⟩=false∧KpL y V W∧KpL y V (W.setCell ⟨y,988,none⟩ (.slice a (X.f16.n+1) c)):=by
 obtain ⟨i,hi,hz0,hz1,hz2⟩:=info_out (P:=Tryz.prog) (t:=5) (z:=.int .u8 0) (s:=1) (b:=1) (by kernel_rfl)
 obtain ⟨q1,q2,q3,q4⟩:=src_byt hv
 have hat0:∀ j u,([.int .u8 v]:List Value)[j]?=some u→V.cell? ((⟨g,0,none⟩:Addr).add j)=some u:=by
  rcases q4 with h0 | ⟨b,off,e,_,hr⟩
  ·omega
  ·cases e
   intro j u hj
   rw [addr_add]
   exact hr j u hj
 obtain ⟨v',W,hr,ho,hg,_,hat⟩:=run_append_own_at (P:=Tryz.prog) V w.heap.size 39 ty 5 i _ 1 1 Tryz.underlying39 hi hz0 hz1 hz2 (by kernel_rfl) (by omega) _ X.f16.n _ h.cpd.o16 ⟨g,0,none⟩ 1 1 ([.int .u8 v]) q2 hat0 q3 (by unfold maxLen;omega) (by omega) h.kep.size
 obtain ⟨a,c,rfl⟩:=owns_form ho
 obtain ⟨m1,m2,m3⟩:=h.ap16 v ho hg hat
 have hk0:KpL y V W:=fun k C t' hk h1 h2 h3 hy=>(hg.block k (some_lt hk) (fun e=>own_ne h.cpd.o16 hk h3 e.symm)).trans hk
 exact ⟨a,c,W,hr,m1,m2,m3,hk0,fun k C t' hk h1 h2 h3 hy=>(heap_set_other hy).trans (hk0 k C t' hk h1 h2 h3 hy)⟩
theorem BK.ap21 {w V W : World} {y : Nat} {Y : VState} {a : Option Addr} {c : Nat} (v : Int) (h : BK w y V Y) (ho : W.ownsRow w.heap.size 22 1 (.slice a (Y.f21.n + 1) c) (Y.f21.n + 1) (nl Y.f21.z Y.f21.n ++ [.int .u64 v])) (hg : V.grownBy W (Value.ownBlock (.slice Y.f21.a Y.f21.n Y.f21.c))) (hb : (Value.slice a (Y.f21.n + 1) c).ownBlock = (Value.slice Y.f21.a Y.f21.n Y.f21.c).ownBlock ∨ (Value.slice a (Y.f21.n + 1) c).ownBlock = some V.heap.size) :
    BK w y (W.setCell ⟨y,1092,none⟩ (.slice a (Y.f21.n+1) c)) (mr21 Y a c v)∧(∃ u,W.cell? ⟨y,1092,none⟩=some u)∧W.frozen? ⟨y,1092,none⟩=false:=by
 have hne:some y≠Value.ownBlock (.slice Y.f21.a Y.f21.n Y.f21.c):=fun e=>own_ne h.cpd.o21 h.row (by decide) e.symm
 have hrow:W.heap[y]?=some (.cells (cel (sState Y)) 49):=(hg.block y (some_lt h.row) hne).trans h.row
 have hk:Kept y W (W.setCell ⟨y,1092,none⟩ (.slice a (Y.f21.n+1) c)):=(Kept.refl y W).setCell _ _
 have hkw:Kept y w W:=⟨hg.os.trans h.kep.os,hg.tape.trans h.kep.tape,hg.output.trans h.kep.output,Nat.le_trans h.kep.size hg.size,fun k hk hn=>(hg.block k (Nat.lt_of_lt_of_le hk h.kep.size) (fun e=>by have:=(h.cpd.o21.lt k e.symm).1;omega)).trans (h.kep.block k hk hn)⟩
 rw [nl_vn] at ho
 have g21:=own_keptB ho hk (own_ne ho hrow (by decide))
 have p7:=own_grown h.cpd.o7 h.cpd.o21 hg (.inl (by decide))
 have g7:=own_keptB p7 hk (own_ne p7 hrow (by decide))
 have p9:=own_grown h.cpd.o9 h.cpd.o21 hg (.inl (by decide))
 have g9:=own_keptB p9 hk (own_ne p9 hrow (by decide))
 have p11:=own_grown h.cpd.o11 h.cpd.o21 hg (.inl (by decide))
 have g11:=own_keptB p11 hk (own_ne p11 hrow (by decide))
 have p12 := own_grown h.cpd.o12 h.cpd.o21 hg (.inr (fun b h1 h2 => by
     obtain ⟨ad,e1,e2⟩:=slice_own h1
     obtain ⟨ad',e3,e4⟩:=slice_own h2
     exact h.cpd.d12 ad ad' e1 e3 (e2.trans e4.symm)))
 have g12:=own_keptB p12 hk (own_ne p12 hrow (by decide))
 have p15:=own_grown h.cpd.o15 h.cpd.o21 hg (.inl (by decide))
 have g15:=own_keptB p15 hk (own_ne p15 hrow (by decide))
 have p16:=own_grown h.cpd.o16 h.cpd.o21 hg (.inl (by decide))
 have g16:=own_keptB p16 hk (own_ne p16 hrow (by decide))
 exact ⟨⟨hkw.trans hk,(row_set hrow 1092 _).trans (congrArg (fun c=>some (Obj.cells c 49)) (st_21 Y a (Y.f21.n+1) c)),⟨g7,g9,g11,g12,g15,g16,g21,h.cpd.d15,fun ad ad' h1 h2 e=>apart_grown h.cpd.o12 hb (fun b b' e1 e2 q=>h.cpd.d12 b' b e2 e1 q.symm) ad' ad h2 h1 e.symm⟩⟩,some_cell hrow (by omega),row_frozen hrow _⟩
theorem BK.at21 {w V : World} {y g : Nat} {X : VState} {t : TypeId} (h : BK w y V X) (hn : X.f21.n ≤ 65536) (v : Int) (hv : V.heap[g]? = some (.cells (#[.int .u64 v]) t)) (ty : TypeId) :
    ∃ a c W,(Builtin.append_ #[37,37] ty #[.slice X.f21.a X.f21.n X.f21.c,.slice (some ⟨g,0,none⟩) 1 1]).run Tryz.prog V=.ok (.slice a (X.f21.n+1) c) W∧BK w y (W.setCell ⟨y,1092,none⟩ (.slice a (X.f21.n+1) c)) (mr21 X a c v)∧(∃ u,W.cell? ⟨y,1092,none⟩=some u)∧W.frozen? ⟨y,1092,none⟩=false∧KpL y V W∧KpL y V (W.setCell ⟨y,1092,none⟩ (.slice a (X.f21.n+1) c)):=by
 obtain ⟨i,hi,hz0,hz1,hz2⟩:=info_out (P:=Tryz.prog) (t:=22) (z:=.int .u64 0) (s:=1) (b:=8) (by kernel_rfl)
 obtain ⟨q1,q2,q3,q4⟩:=src_num hv
 have hat0:∀ j u,([.int .u64 v]:List Value)[j]?=some u→V.cell? ((⟨g,0,none⟩:Addr).add j)=some u:=by
  rcases q4 with h0 | ⟨b,off,e,_,hr⟩
  ·omega
  ·cases e
   intro j u hj
   rw [addr_add]
   exact hr j u hj
 obtain ⟨v',W,hr,ho,hg,_,hat⟩:=run_append_own_at (P:=Tryz.prog) V w.heap.size 37 ty 22 i _ 1 8 Tryz.underlying37 hi hz0 hz1 hz2 (by kernel_rfl) (by omega) _ X.f21.n _ h.cpd.o21 ⟨g,0,none⟩ 1 1 ([.int .u64 v]) q2 hat0 q3 (by unfold maxLen;omega) (by omega) h.kep.size
 obtain ⟨a,c,rfl⟩:=owns_form ho
 obtain ⟨m1,m2,m3⟩:=h.ap21 v ho hg hat
 have hk0:KpL y V W:=fun k C t' hk h1 h2 h3 hy=>(hg.block k (some_lt hk) (fun e=>own_ne h.cpd.o21 hk h2 e.symm)).trans hk
 exact ⟨a,c,W,hr,m1,m2,m3,hk0,fun k C t' hk h1 h2 h3 hy=>(heap_set_other hy).trans (hk0 k C t' hk h1 h2 h3 hy)⟩
end Go.Proofs.YtfgmddnfhphdeaaGreatDoor
