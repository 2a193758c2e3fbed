/- A part. -/
import Derived.Test.YtfgmddnfhphdeaaGreatDoorQD
import Derived.Test.YtfgmddnfhphdeaaGreatDoorStD
import Derived.Test.YtfgmddnfhphdeaaGreatDoorQG
import Derived.Test.YtfgmddnfhphdeaaGreatDoorStQ
import Derived.Test.YtfgmddnfhphdeaaGreatDoorQF
import Derived.Test.YtfgmddnfhphdeaaGreatDoorPkB
import Derived.Test.YtfgmddnfhphdeaaGreatDoorQL
import Derived.BigRegion
import Derived.Laws.BitsAllLaws
import Derived.Deep.Cut
namespace Go.Proofs.YtfgmddnfhphdeaaGreatDoor
open Go.RowKit
set_option linter.unusedVariables false
set_option linter.unusedSimpArgs false
section
open Go.RowKit
set_option linter.unusedVariables false
set_option linter.unusedSimpArgs false
set_option maxRecDepth 20000
theorem putL_eq (C:Array Value) (o:Nat) (l:List Value) (h:o+l.length≤C.size):putL C o l=(C.toList.take o++l++C.toList.drop (o+l.length)).toArray:=by
 apply Array.ext'
 apply List.ext_getElem?
 intro i
 have hc:C.toList.length=C.size:=Array.length_toList
 rw [Array.getElem?_toList,putL_get _ _ _ _ h]
 by_cases h1:i < o
 ·rw [if_neg (by omega),List.append_assoc,List.getElem?_append_left (by rw [List.length_take];omega),List.getElem?_take_of_lt h1,Array.getElem?_toList]
 ·rw [List.append_assoc,List.getElem?_append_right (by rw [List.length_take];omega),List.length_take,Nat.min_eq_left (by omega)]
  by_cases h2:i < o+l.length
  ·rw [if_pos ⟨by omega,h2⟩,List.getElem?_append_left (by omega)]
  ·rw [if_neg (by omega),List.getElem?_append_right (by omega),List.getElem?_drop,show o+l.length+(i - o - l.length)=i by omega,Array.getElem?_toList]
theorem RI.put {w X:World} {r y:Nat} {x x':VState} (h:RI w r y x X) (hr:r≠y) (hy:w.heap.size≤y) (l1 m m' l2:List Seg) (e1:sState x=l1++m++l2) (e2:sState x'=l1++m'++l2) (hm:slen m'=slen m) (o:Nat) (ho:slen l1=o):RI w r y x' (X.setCells y o (celL m')):=by
 refine h.kept hr hy (setCells_kept _ _ (Kept.refl y X)) ((setCells_row _ _ h.2.2).trans (congrArg (fun c=>some (Obj.cells c 49)) ?_))
 have hs:slen (l1++m++l2)=slen l1+slen m+slen l2:=by
  rw [←celL_len,celL_app,celL_app,List.length_append,List.length_append,celL_len,celL_len,celL_len]
 rw [e1,e2,putL_eq _ _ _ (by rw [cel_size,celL_len,hm,hs];omega),celL_len,hm,←ho,cel_put]
attribute [local go_sem ↓] lvState_eq svState_eq bdState_eq ixP_eq svFork_eq svHeader_eq svEth1_eq svCheckpoint_eq svCommittee_eq
end
section
open Go.RowKit
set_option linter.unusedVariables false
set_option linter.unusedSimpArgs false
set_option maxRecDepth 20000
def V3:VState:={ oState with f2:=3 }
theorem fitsS (x:VState):Z.Fits zS (pL x) 24:=by
 intro r hr h0
 have c:∀ r,r < 24→zS r=0∨(∃ k:Nat,zS r=(k:Int)∧∀ y:VState,pL y r=k):=by
  intro r hr
  rcases r with _ | _ | _ | _ | _ | _ | _ | _ | _ | _ | _ | _ | _ | _ | _ | _ | _ | _ | _ | _ | _ | _ | _ | _ | r
  all_goals first | exact .inl rfl | exact .inr ⟨_,rfl,fun _=>rfl⟩ | omega
 rcases c r hr with h | ⟨k,h1,h2⟩
 ·exact absurd h h0
 ·rw [h2 x,h1]
theorem nmsS {w:World} {sa:Nat} (hs:w.heap[sa]?=some (.cells (vs .i64 24 zS) 3)):Z.Nms .i64 w (some ⟨sa,0,none⟩) 24 zS:=.inr ⟨sa,0,rfl,some_lt hs,fun j hj=>by rw [Nat.zero_add];exact row_int hs j hj⟩
attribute [local go_sem ↓] lvState_eq svState_eq bdState_eq
end
section
open Go.RowKit
set_option linter.unusedVariables false
set_option linter.unusedSimpArgs false
set_option maxRecDepth 20000
theorem own_keptB {w w':World} {B k b:Nat} {t:TypeId} {v:Value} {n:Nat} {xs:List Value} (h:w.ownsRow B t k v n xs) (hk:Kept b w w') (hne:v.ownBlock≠some b):w'.ownsRow B t k v n xs:=by
 refine ⟨h.1,?_⟩
 rcases h.2 with h1 | ⟨g,cap,cur,rfl,h2,h3,h4⟩
 ·exact .inl h1
 ·exact .inr ⟨g,cap,cur,rfl,h2,(hk.block g (some_lt h3) (fun e=>hne (by rw [e];rfl))).trans h3,h4⟩
theorem own_ne {w:World} {B k b:Nat} {t t':TypeId} {v:Value} {n:Nat} {xs:List Value} {C:Array Value} (h:w.ownsRow B t k v n xs) (hb:w.heap[b]?=some (.cells C t')) (ht:t≠t'):v.ownBlock≠some b:=by
 rcases h.2 with ⟨rfl,_⟩ | ⟨g,cap,cur,rfl,h2,h3,h4⟩
 ·intro e
  cases e
 ·intro e
  cases e
  rw [hb] at h3
  cases h3
  exact ht rfl
theorem place (i:Int) (n:Nat) (hn:0 < n):∃ K:Nat,K < n∧(i.tmod n+n).tmod n=(K:Int)∧-(n:Int) < i.tmod n∧i.tmod n < n:=by
 have h1:-(n:Int) < i.tmod n:=by
  have:=Int.lt_tmod_of_pos i (show (0:Int) < n by omega)
  omega
 have h2:i.tmod n < n:=Int.tmod_lt_of_pos i (by omega)
 have h3:0≤(i.tmod n+n).tmod n:=Int.tmod_nonneg _ (by omega)
 have h4:(i.tmod n+n).tmod n < n:=Int.tmod_lt_of_pos _ (by omega)
 exact ⟨((i.tmod n+n).tmod n).toNat,by omega,by omega,h1,h2⟩
end
section
open Go.RowKit
set_option linter.unusedVariables false
set_option linter.unusedSimpArgs false
set_option maxRecDepth 20000
def mS (x:VState) (j:Nat):Int:=(Z.layC zS (pF x) (pL x) 24).getD j 0
theorem mS_len (x:VState):(Z.layC zS (pF x) (pL x) 24).length=tL x:=Z.layC_len zS (pF x) (pL x) 24 (fitsS x)
theorem mS_bl (x:VState):Z.iv (Z.layC zS (pF x) (pL x) 24)=bl (mS x) (tL x):=by
 rw [Z.iv_bl,mS_len]
 rfl
end
section
open Go.RowKit
set_option linter.unusedVariables false
set_option linter.unusedSimpArgs false
set_option maxRecDepth 20000
structure BF (w:World) (y:Nat) (V:World) (Y:VState):Prop where
 bel:Below w.heap.size w V
 row:V.heap[y]?=some (.cells (cel (sState Y)) 49)
 cpd:CpdF w.heap.size V Y
theorem own_byF {w:World} {B:Nat} {a:Option Addr} {n c:Nat} {z:Nat→Int} (h:w.ownsRow B 5 1 (.slice a n c) n (bl z n)):Bys w a n c z:=by
 obtain ⟨a',c',e,hb⟩:=own_at h
 cases e
 exact hb
theorem own_rtF {w:World} {B:Nat} {a:Option Addr} {n c:Nat} {z:Nat→Int} (h:w.ownsRow B 24 32 (.slice a n c) n (bl z (32*n))):Rts w a n c z:=by
 rcases h.2 with ⟨hv,h0⟩ | ⟨g,cap,cur,hv,hB,hg,h1,h2,hs,ht⟩
 ·cases hv
  exact .inl ⟨rfl,rfl,rfl⟩
 ·cases hv
  refine .inr (.inr ⟨g,0,rfl,h1,some_lt hg,fun j hj=>?_⟩)
  have:=bl_at z (32*n) j hj
  rw [←ht,List.getElem?_take_of_lt (by omega),Array.getElem?_toList] at this
  rw [Nat.zero_add,row_cell hg,this]
theorem BF.inW {w:World} {y:Nat} {V:World} {Y:VState} (h:BF w y V Y):InW V Y :=
 ⟨own_rtF h.cpd.o7,own_els h.cpd.o9 (fun i=>by rw [celL_len];rfl),own_els h.cpd.o11 (fun i=>by rw [celL_len];rfl),own_nms h.cpd.o12,own_byF h.cpd.o15,own_byF h.cpd.o16,own_nms h.cpd.o21⟩
theorem CpdF.below {B:Nat} {V V':World} {Y:VState} (h:CpdF B V Y) (hb:Below V.heap.size V V'):CpdF B V' Y :=
 ⟨ownsRow_below h.o7 hb,ownsRow_below h.o9 hb,ownsRow_below h.o11 hb,ownsRow_below h.o12 hb,ownsRow_below h.o15 hb,ownsRow_below h.o16 hb,ownsRow_below h.o21 hb,h.d15,h.d12⟩
theorem BF.below {w V V':World} {y:Nat} {Y:VState} (h:BF w y V Y) (hb:Below V.heap.size V V'):BF w y V' Y :=
 ⟨h.bel.trans (hb.mono h.bel.size),(hb.block y (some_lt h.row)).trans h.row,h.cpd.below hb⟩
theorem BF.drew {w V:World} {y:Nat} {Y:VState} (h:BF w y V Y):BF w y V.drew Y:=h.below ((Below.refl _ _).drew)
theorem BF.setY {w V:World} {y:Nat} {Y Y':VState} (h:BF w y V Y) (hy:w.heap.size≤y) (i:Nat) (v:Value) (he:(cel (sState Y)).setIfInBounds i v=cel (sState Y')) (e7:Y'.f7=Y.f7) (e9:Y'.f9=Y.f9) (e11:Y'.f11=Y.f11) (e12:Y'.f12=Y.f12) (e15:Y'.f15=Y.f15) (e16:Y'.f16=Y.f16) (e21:Y'.f21=Y.f21):BF w y (V.setCell ⟨y,i,none⟩ v) Y':=by
 have hk:Kept y V (V.setCell ⟨y,i,none⟩ v):=(Kept.refl y V).setCell _ _
 refine ⟨h.bel.trans (hk.below hy h.bel.size),(row_set h.row i v).trans (congrArg (fun c=>some (Obj.cells c 49)) he),⟨?_,?_,?_,?_,?_,?_,?_,?_,?_⟩⟩
 ·rw [e7]
  exact own_keptB h.cpd.o7 hk (own_ne h.cpd.o7 h.row (by decide))
 ·rw [e9]
  exact own_keptB h.cpd.o9 hk (own_ne h.cpd.o9 h.row (by decide))
 ·rw [e11]
  exact own_keptB h.cpd.o11 hk (own_ne h.cpd.o11 h.row (by decide))
 ·rw [e12]
  exact own_keptB h.cpd.o12 hk (own_ne h.cpd.o12 h.row (by decide))
 ·rw [e15]
  exact own_keptB h.cpd.o15 hk (own_ne h.cpd.o15 h.row (by decide))
 ·rw [e16]
  exact own_keptB h.cpd.o16 hk (own_ne h.cpd.o16 h.row (by decide))
 ·rw [e21]
  exact own_keptB h.cpd.o21 hk (own_ne h.cpd.o21 h.row (by decide))
 ·rw [e15,e16]
  exact h.cpd.d15
 ·rw [e12,e21]
  exact h.cpd.d12
theorem own_grown {w w':World} {B B' k k':Nat} {t t':TypeId} {v v':Value} {n n':Nat} {xs xs':List Value} (h:w.ownsRow B t k v n xs) (h':w.ownsRow B' t' k' v' n' xs') (hg:w.grownBy w' v'.ownBlock) (hne:t≠t'∨∀ b,v.ownBlock=some b→v'.ownBlock≠some b):w'.ownsRow B t k v n xs:=by
 refine h.kept hg ?_
 rcases h'.2 with ⟨h0,_⟩ | ⟨g,cap,cur,h0,_,hc,_⟩
 ·rw [h0]
  cases v.ownBlock with
  | none => exact .inl rfl
  | some b => exact .inr (fun e => by cases e)
 ·rw [h0]
  refine .inr ?_
  rcases hne with ht | hd
  ·exact own_ne h hc ht
  ·exact fun e=>hd g e (by rw [h0];rfl)
theorem slice_own {a:Option Addr} {n c b:Nat} (h:Value.ownBlock (.slice a n c)=some b):∃ ad,a=some ad∧ad.block=b:=by
 cases a with
 | none => cases h
 | some ad => exact ⟨ad, rfl, by cases h; rfl⟩
theorem okF_sim {x X:VState} (h:SimF x X) (hx:OkState x):OkState X:=by
 refine ⟨by rw [h.e0];exact hx.o0,by rw [h.e1];exact hx.o1,by rw [h.e2];exact hx.o2,by rw [h.e3];exact hx.o3,by rw [h.e4];exact hx.o4,by rw [h.e5];exact hx.o5,by rw [h.e6];exact hx.o6,fun j hj=>by rw [h.z7];exact hx.o7 j (by rw [←h.l7];exact hj),by rw [h.e8];exact hx.o8,fun j hj=>by rw [h.z9];exact hx.o9 j (by rw [←h.l9];exact hj),by rw [h.e10];exact hx.o10,fun j hj=>by rw [h.z11];exact hx.o11 j (by rw [←h.l11];exact hj),fun j hj=>by rw [h.z12];exact hx.o12 j (by rw [←h.l12];exact hj),by rw [h.e13];exact hx.o13,by rw [h.e14];exact hx.o14,fun j hj=>by rw [h.z15];exact hx.o15 j (by rw [←h.l15];exact hj),fun j hj=>by rw [h.z16];exact hx.o16 j (by rw [←h.l16];exact hj),by rw [h.e18];exact hx.o18,by rw [h.e19];exact hx.o19,by rw [h.e20];exact hx.o20,fun j hj=>by rw [h.z21];exact hx.o21 j (by rw [←h.l21];exact hj),by rw [h.e22];exact hx.o22,by rw [h.e23];exact hx.o23⟩
theorem mS_sim {x X:VState} (h:SimF x X):qS X=qS x:=by
 unfold qS
 rw [h.e0,h.e1,h.e2,h.e3,h.e4,h.e5,h.e6,h.l7,h.z7,h.e8,h.l9,h.z9,h.e10,h.l11,h.z11,h.l12,h.z12,h.e13,h.e14,h.l15,h.z15,h.l16,h.z16,h.e17,h.e18,h.e19,h.e20,h.l21,h.z21,h.e22,h.e23]
theorem fit_sim {x X:VState} (h:SimF x X):fitB X=fitB x:=by
 unfold fitB
 rw [h.l7,h.l9,h.l11,h.l12,h.l15,h.l16,h.l21]
end
section
open Go.RowKit
set_option linter.unusedVariables false
set_option linter.unusedSimpArgs false
set_option maxRecDepth 20000
theorem fitn {x:VState} (h:fitB x=true):x.f7.n≤1024∧x.f9.n≤8∧x.f11.n≤65536∧x.f12.n≤65536∧x.f15.n≤65536∧x.f16.n≤65536∧x.f21.n≤65536:=by
 unfold fitB at h
 simp only [Bool.and_eq_true,decide_eq_true_eq] at h
 omega
theorem tL_lt {x:VState} (h:fitB x=true):tL x < 4294967296:=by
 have:=fitn h
 rw [tL_is]
 omega
attribute [local go_sem ↓] lvState_eq svState_eq bd27_eq bs22_eq
end
section
open Go.RowKit
set_option linter.unusedVariables false
set_option linter.unusedSimpArgs false
set_option maxRecDepth 20000
def Kys (w:World) (a:Option Addr) (len cap:Nat) (f:Nat→Int):Prop :=
 (a=none∧len=0∧cap=0)∨(∃ x,a=some x∧len=0)∨∃ b off,a=some ⟨b,off,none⟩∧len≤cap∧b < w.heap.size∧∀ j,j < 48*len→w.cell? ⟨b,off+j,none⟩=some (.int .u8 (f j))
theorem Kys.below {w w':World} {a:Option Addr} {len cap:Nat} {f:Nat→Int} (h:Kys w a len cap f) (hb:Below w.heap.size w w'):Kys w' a len cap f:=by
 rcases h with h | h | ⟨b,off,h1,h2,h3,h4⟩
 ·exact .inl h
 ·exact .inr (.inl h)
 ·exact .inr (.inr ⟨b,off,h1,h2,Nat.lt_of_lt_of_le h3 hb.size,fun j hj=>(below_cell hb h3).trans (h4 j hj)⟩)
def ixKy (x i:Value):Sem Value:=Instr.indexAt 88 x i
theorem ixKy_eq (x i:Value):Instr.indexAt 88 x i=ixKy x i:=rfl
theorem sizeKy (w:World):(sizeOf 44).run Tryz.prog w=.ok 48 w:=by
 have hi:(Tryz.prog.info? 44).map (·.size)=some 48:=by kernel_rfl
 cases hq:Tryz.prog.info? 44 with
 | none => simp [hq] at hi
 | some i => simp [hq] at hi; simp [sizeOf, typeInfo, hq, hi]
theorem ixKy_run (w:World) (b off len cap i:Nat) (h:i < len):(ixKy (.slice (some ⟨b,off,none⟩) len cap) (.int .i64 i)).run Tryz.prog w=.ok (.pointer (some ⟨b,off+48*i,none⟩)) w:=by
 unfold ixKy Instr.indexAt
 have h1:(0:Int)≤(i:Int)∧(i:Int) < (len:Int):=by omega
 simp only [asIntOf,Sem.run_bind,Sem.run_pure,Result.andThen_ok,run_underlying Tryz.underlying88,if_pos h1,sizeKy,Addr.add_mid,Int.toNat_natCast]
 rw [Nat.mul_comm]
def lvKy (a:Addr):Sem Value:=loadVar 44 a
theorem lvKy_eq (a:Addr):loadVar 44 a=lvKy a:=rfl
theorem lvKy_run {w:World} {b:Nat} {c:Nat→Int} {t:TypeId} (h:w.heap[b]?=some (.cells (vs .u8 48 c) t)):(lvKy ⟨b,0,none⟩).run Tryz.prog w=.ok (.agg (vs .u8 48 c)) w :=
 loadAt_var (load_row h 44 _ Tryz.underlying44 rfl (by rw [vs_size];kernel_rfl))
attribute [local go_sem ↓] ixKy_eq lvKy_eq svKy_eq sv24_eq lv24_eq
end
section
open Go.RowKit
set_option linter.unusedVariables false
set_option linter.unusedSimpArgs false
set_option maxRecDepth 20000
attribute [local go_sem ↓] lvState_eq svState_eq bdState_eq lvValidator_eq svValidator_eq ixValidator_eq sv24_eq lv24_eq sv8_eq
def prS (x:VState):Nat→Int:=shaV KW HW (sd8 (seedV x (x.f2 / 4) 0) x.f2) 40
def prL (x:VState):List Int:=dwL x.f11.z (acE x (x.f2 / 4)) (prS x) 1
def prE (x:VState):Int:=dwE x.f11.z (acE x (x.f2 / 4)) (prS x) 1
def prV (x:VState):Int:=(prL x).getD 0 0
end
section
open Go.RowKit
set_option linter.unusedVariables false
set_option linter.unusedSimpArgs false
set_option maxRecDepth 100000
def X2 (g1 g2 g3 g4 g5:Nat):VState:={ oState with f11:=⟨some ⟨g1,0,none⟩,1,1,fun _=>oV2⟩,f12:=⟨some ⟨g2,0,none⟩,1,1,fun _=>0⟩,f15:=⟨some ⟨g3,0,none⟩,1,1,fun _=>0⟩,f16:=⟨some ⟨g4,0,none⟩,1,1,fun _=>0⟩,f21:=⟨some ⟨g5,0,none⟩,1,1,fun _=>0⟩ }
theorem ok_z15:OkState oState:=by
 have h:=okCz
 exact ⟨h.o0,h.o1,h.o2,h.o3,h.o4,h.o5,h.o6,h.o7,h.o8,h.o9,h.o10,fun _ hj=>absurd hj (Nat.not_lt_zero _),fun _ hj=>absurd hj (Nat.not_lt_zero _),h.o13,h.o14,fun _ hj=>absurd hj (Nat.not_lt_zero _),fun _ hj=>absurd hj (Nat.not_lt_zero _),h.o18,h.o19,h.o20,fun _ hj=>absurd hj (Nat.not_lt_zero _),h.o22,h.o23⟩
theorem setRow_other {w:World} {b k:Nat} {C:Array Value} (h:k≠b):(w.setRow b C).heap[k]?=w.heap[k]?:=by
 simp only [World.setRow,Array.getElem?_modify]
 rw [if_neg (fun e=>h e.symm)]
attribute [local go_sem ↓] lvState_eq svState_eq bdState_eq lvValidator_eq svValidator_eq ixValidator_eq bvV_eq bsV_eq
end
section
open Go.RowKit
set_option linter.unusedVariables false
set_option linter.unusedSimpArgs false
set_option maxRecDepth 20000
theorem lvKy_mid {w:World} {b o:Nat} {c:Nat→Int} (h:∀ j,j < 48→w.cell? ⟨b,o+j,none⟩=some (.int .u8 (c j))):(lvKy ⟨b,o,none⟩).run Tryz.prog w=.ok (.agg (vs .u8 48 c)) w:=by
 have hr:w.rangeAt b o ((List.range 48).map fun i=>Value.int .u8 (c i)):=by
  intro j v hj
  have hlt:j < 48:=by
   have:=(List.getElem?_eq_some_iff.1 hj).1
   simpa using this
  rw [h j hlt]
  simp [hlt] at hj
  rw [hj]
 exact loadAt_var (run_loadAt_mid w b o 44 _ _ hr Tryz.underlying44 rfl (by rw [List.length_map,List.length_range];kernel_rfl))
def bdC15 (ps:Array (Nat × Value)):Sem Value:=Instr.build 47 ps
theorem bdC15_eq (ps:Array (Nat × Value)):Instr.build 47 ps=bdC15 ps:=rfl
def ix45 (x i:Value):Sem Value:=Instr.indexAt 45 x i
theorem ix45_eq (x i:Value):Instr.indexAt 45 x i=ix45 x i:=rfl
attribute [local go_sem ↓] lvState_eq svState_eq bdState_eq lvValidator_eq svValidator_eq ixValidator_eq lvCommittee_eq svCommittee_eq bdC15_eq ixKy_eq lvKy_eq svKy_eq ix45_eq
end
section
open Go.RowKit
set_option linter.unusedVariables false
set_option linter.unusedSimpArgs false
set_option maxRecDepth 20000
theorem ownSetC {w:World} {B k g n cap:Nat} {t:TypeId} {xs:List Value} (h:w.ownsRow B t k (.slice (some ⟨g,0,none⟩) n cap) n xs) (i:Nat) (hi:i < n*k) (v:Value):(w.setCell ⟨g,i,none⟩ v).ownsRow B t k (.slice (some ⟨g,0,none⟩) n cap) n (xs.set i v):=by
 refine ⟨by rw [List.length_set];exact h.1,?_⟩
 rcases h.2 with ⟨e,_⟩ | ⟨g',cap',cur,e,h1,h2,h3,h4,h5,h6⟩
 ·cases e
 ·cases e
  refine .inr ⟨g,cap,cur.setIfInBounds i v,rfl,h1,row_set h2 i v,h3,h4,by rw [Array.size_setIfInBounds];exact h5,?_⟩
  rw [←h6]
  apply List.ext_getElem?
  intro j
  rw [List.getElem?_take,Array.getElem?_toList,Array.getElem?_setIfInBounds]
  have hs:i < cur.size:=by
   rw [h5]
   exact Nat.lt_of_lt_of_le hi (Nat.mul_le_mul_right _ h3)
  by_cases hj:j < n*k
  ·rw [if_pos hj,List.getElem?_set]
   by_cases hji:i=j
   ·subst hji
    rw [if_pos rfl,if_pos rfl,if_pos hs,if_pos (by rw [List.length_take,Array.length_toList];omega)]
   ·rw [if_neg hji,if_neg hji,List.getElem?_take,if_pos hj,Array.getElem?_toList]
  ·rw [if_neg hj,List.getElem?_eq_none (by rw [List.length_set,List.length_take];omega)]
theorem flat_set {e:Nat→List Value} {k:Nat} (h:∀ i,(e i).length=k) (n i p:Nat) (hi:i < n) (hp:p < k) (v:Value):(flat e n).set (i*k+p) v=flat (fun j=>if j=i then (e i).set p v else e j) n:=by
 have h':∀ j,((fun j=>if j=i then (e i).set p v else e j) j).length=k:=fun j=>by
  show (if j=i then (e i).set p v else e j).length=k
  by_cases hj:j=i
  ·rw [if_pos hj,List.length_set];exact h i
  ·rw [if_neg hj];exact h j
 apply List.ext_getElem?
 intro q
 rw [List.getElem?_set]
 by_cases hq:q < n*k
 ·have hk:0 < k:=by omega
  have hd:q / k < n:=Nat.div_lt_of_lt_mul (by rw [Nat.mul_comm];exact hq)
  have hm:q % k < k:=Nat.mod_lt _ hk
  have e1:q / k*k+q % k=q:=by rw [Nat.mul_comm];exact Nat.div_add_mod q k
  have f1:=flat_at h (q / k) (q % k) hm n hd
  have f2:=flat_at h' (q / k) (q % k) hm n hd
  rw [e1] at f1 f2
  rw [f2]
  by_cases hqi:i*k+p=q
  ·have hq1:q / k=i:=by
    rw [←hqi,Nat.mul_comm i k,Nat.mul_add_div hk,Nat.div_eq_of_lt hp,Nat.add_zero]
   have hq2:q % k=p:=by
    rw [←hqi,Nat.mul_comm i k,Nat.mul_add_mod,Nat.mod_eq_of_lt hp]
   rw [if_pos hqi,hq1,hq2]
   show _=(if i=i then (e i).set p v else e i)[p]?
   rw [if_pos rfl,List.getElem?_set_self (by rw [h i];exact hp),if_pos (by rw [flat_len h n,hqi];exact hq)]
  ·rw [if_neg hqi,f1]
   show _=(if q / k=i then (e i).set p v else e (q / k))[q % k]?
   by_cases hq1:q / k=i
   ·rw [if_pos hq1,hq1,List.getElem?_set_ne (fun hh=>hqi (by rw [hh,←hq1];exact e1))]
   ·rw [if_neg hq1]
 ·have l2:(flat (fun j=>if j=i then (e i).set p v else e j) n)[q]?=none:=List.getElem?_eq_none (by rw [flat_len h' n];omega)
  have l1:(flat e n)[q]?=none:=List.getElem?_eq_none (by rw [flat_len h n];omega)
  rw [l2,l1]
  by_cases hqi:i*k+p=q
  ·exfalso
   have:i*k+k≤n*k:=by
    rw [←Nat.succ_mul]
    exact Nat.mul_le_mul_right _ hi
   omega
  ·rw [if_neg hqi]
theorem nl_set (z:Nat→Int) (n i:Nat) (v:Int):(nl z n).set i (.int .u64 v)=nl (fun j=>if j=i then v else z j) n:=by
 apply List.ext_getElem?
 intro j
 unfold nl
 rw [List.getElem?_set,List.getElem?_map,List.getElem?_map,List.length_map,List.length_range]
 by_cases hj:j < n
 ·rw [List.getElem?_range hj]
  by_cases hi:i=j
  ·subst hi
   rw [if_pos rfl,if_pos hj,Option.map_some]
   exact congrArg (fun x=>some (Value.int .u64 x)) (if_pos rfl).symm
  ·rw [if_neg hi,Option.map_some,Option.map_some]
   exact congrArg (fun x=>some (Value.int .u64 x)) (if_neg (show ¬ j=i from fun e=>hi e.symm)).symm
 ·rw [List.getElem?_eq_none (by rw [List.length_range];omega)]
  by_cases hi:i=j
  ·subst hi
   rw [if_pos rfl,if_neg hj]
   rfl
  ·rw [if_neg hi]
   rfl
end
section
open Go.RowKit
set_option linter.unusedVariables false
set_option linter.unusedSimpArgs false
set_option maxRecDepth 20000
theorem put_seg (l1 m m' l2:List Seg) (hm:slen m'=slen m):putL (cel (l1++m++l2)) (slen l1) (celL m')=cel (l1++m'++l2):=by
 have hs:slen (l1++m++l2)=slen l1+slen m+slen l2:=by
  rw [←celL_len,celL_app,celL_app,List.length_append,List.length_append,celL_len,celL_len,celL_len]
 rw [putL_eq _ _ _ (by rw [cel_size,celL_len,hm,hs];omega),celL_len,hm,cel_put]
theorem celL_by (N:Nat) (u:Nat→Int):celL [.by N u]=bl u N:=by
 show (List.range N).map _++[]=_
 rw [List.append_nil]
 rfl
theorem byte_at {w:World} {g:Nat} {t:TypeId} (l1 l2:List Seg) (N:Nat) (f:Nat→Int) (h:w.heap[g]?=some (.cells (cel (l1++[.by N f]++l2)) t)) (p:Nat) (hp:p < N):w.cell? ⟨g,slen l1+p,none⟩=some (.int .u8 (f p)):=by
 rw [row_cell h]
 show (celL (l1++[.by N f]++l2)).toArray[slen l1+p]?=_
 rw [List.getElem?_toArray,celL_app,celL_app,List.append_assoc,List.getElem?_append_right (by rw [celL_len];omega),celL_len,Nat.add_sub_cancel_left,celL_by,List.getElem?_append_left (by rw [bl_len];exact hp)]
 unfold bl
 rw [List.getElem?_map,List.getElem?_range hp]
 rfl
theorem splitKA (x:VState) (u:Nat→Int):sState { x with f1:=u }=(sState x).take 1++[.by 32 u]++(sState x).drop 2:=by kernel_rfl
theorem len1 (x:VState):slen ((sState x).take 1)=1:=by kernel_rfl
theorem at1 {w:World} {g:Nat} {x:VState} {t:TypeId} (h:w.heap[g]?=some (.cells (cel (sState x)) t)) (p:Nat) (hp:p < 32):w.cell? ⟨g,1+p,none⟩=some (.int .u8 (x.f1 p)):=by
 have:=byte_at ((sState x).take 1) ((sState x).drop 2) 32 x.f1 (t:=t) (by rw [←splitKA];exact h) p hp
 rw [len1] at this
 exact this
end
section
open Go.RowKit
set_option linter.unusedVariables false
set_option linter.unusedSimpArgs false
def kdB (k:Int) (j:Nat):Int:=nmB (k % 4294967296) j
def dmV (k:Int) (v r:Nat→Int) (j:Nat):Int:=if j < 4 then kdB k j else tw (pk v 4) r (j - 4)
def domV (x:VState) (k e:Int):Nat→Int:=dmV k (if e < x.f3.f2 then x.f3.f0 else x.f3.f1) x.f1
def depV:Nat→Int:=dmV 3 (fun _=>0) (fun _=>0)
theorem kdB_bd (k:Int) (j:Nat):0≤kdB k j∧kdB k j < 256:=by unfold kdB nmB;omega
theorem dmV_bd (k:Int) (v r:Nat→Int) (j:Nat):0≤dmV k v r j∧dmV k v r j < 256:=by
 unfold dmV
 split
 ·exact kdB_bd k j
 ·exact tw_bd ..
theorem kdB_64 (k:Int) (j:Nat) (hj:j < 4):nmB (k % 18446744073709551616) j=kdB k j:=by
 unfold kdB nmB
 match j,hj with
 | 0, _ => simp only [Nat.mul_zero, Int.pow_zero]; omega
 | 1, _ => show k % 18446744073709551616 / 256 % 256 = k % 4294967296 / 256 % 256; omega
 | 2, _ => show k % 18446744073709551616 / 65536 % 256 = k % 4294967296 / 65536 % 256; omega
 | 3, _ => show k % 18446744073709551616 / 16777216 % 256 = k % 4294967296 / 16777216 % 256; omega
theorem pk_in {m:Nat→Int} {len:Nat} (h:∀ j,j < len→0≤m j∧m j < 256) (q:Nat):0≤pk m len q∧pk m len q < 256:=by
 unfold pk
 split
 ·exact h q ‹_›
 ·omega
theorem rtsCap {w:World} {a:Option Addr} {len cap:Nat} {f:Nat→Int} (h:Rts w a len cap f) (hl:1≤len):len≤cap:=by
 rcases h with ⟨_,h,_⟩ | ⟨_,_,h⟩ | ⟨_,_,_,h,_⟩
 ·omega
 ·omega
 ·exact h
theorem blCongr {m m':Nat→Int} {n:Nat} (h:∀ j,j < n→m j=m' j):bl m n=bl m' n:=by
 unfold bl
 exact List.map_congr_left fun j hj=>by rw [h j (List.mem_range.1 hj)]
def msF (d:VDepositData):Nat→Int:=fl7 [treeV (pk d.f0 48) 2 2,d.f1,pk (nmB d.f2) 8]
def msV (d:VDepositData):Nat→Int:=treeV (msF d) 3 3
theorem rt32_0 (f:Nat→Int):rt32 f 0=f:=funext fun j=>by unfold rt32;rw [Nat.mul_zero,Nat.zero_add]
theorem msF_bd {d:VDepositData} (h1:∀ j,j < 32→0≤d.f1 j∧d.f1 j < 256) (ht:∀ j,j < 32→0≤treeV (pk d.f0 48) 2 2 j∧treeV (pk d.f0 48) 2 2 j < 256):ByB (msF d) 96:=fl7_bd (fun c hc j hj=>by
 rcases List.mem_cons.1 hc with rfl | hc
 ·exact ht j hj
 rcases List.mem_cons.1 hc with rfl | hc
 ·exact h1 j hj
 rw [List.mem_singleton] at hc
 rw [hc]
 exact pk_in (fun j _=>by unfold nmB;omega) j) 96
def qsF (f:Nat→Int) (n:Nat) (r s:Nat→Int) (j:Nat):Int:=if j < 48*n then f j else if j < 48*n+32 then r (j - 48*n) else s (j - (48*n+32))
def qsV (f:Nat→Int) (n:Nat) (r s:Nat→Int):Nat→Int:=shaV KW HW (qsF f n r s) (48*n+128)
theorem qsF_bd {f r s:Nat→Int} {n:Nat} (hf:∀ j,j < 48*n→0≤f j∧f j < 256) (hr:∀ j,j < 32→0≤r j∧r j < 256) (hs:∀ j,j < 96→0≤s j∧s j < 256):∀ j,j < 48*n+128→0≤qsF f n r s j∧qsF f n r s j < 256:=fun j hj=>by
 unfold qsF
 split
 ·exact hf j ‹_›
 ·split
  ·exact hr _ (by omega)
  ·exact hs _ (by omega)
def gdB (q f:Nat→Int) (n:Nat):Bool:=!(List.range n).any fun i=>eqR (rt32 f i) q
theorem gdB_zero (q f:Nat→Int):gdB q f 0=true:=rfl
theorem gdB_succ (q f:Nat→Int) (n:Nat):gdB q f (n+1)=(gdB q f n && !eqR (rt32 f n) q):=by
 unfold gdB
 rw [List.range_succ,List.any_append,Bool.not_or]
 simp
theorem gdB_true {q f:Nat→Int} {n:Nat}:gdB q f n=true↔∀ i,i < n→eqR (rt32 f i) q=false:=by
 unfold gdB
 simp
end
end Go.Proofs.YtfgmddnfhphdeaaGreatDoor
