/- A part. -/
import Derived.Test.YtfgmddnfhphdeaaGreatDoorQI
import Derived.Test.YtfgmddnfhphdeaaGreatDoorStQ
import Derived.Test.YtfgmddnfhphdeaaGreatDoorQJ
import Derived.Test.YtfgmddnfhphdeaaGreatDoorQL
import Derived.Test.YtfgmddnfhphdeaaGreatDoorStP
import Derived.Test.YtfgmddnfhphdeaaGreatDoorCoA
import Derived.Test.YtfgmddnfhphdeaaGreatDoorQQ
import Derived.Test.YtfgmddnfhphdeaaGreatDoorQE
import Derived.Test.YtfgmddnfhphdeaaGreatDoorQT
import Derived.Test.YtfgmddnfhphdeaaGreatDoorQH
import Derived.Test.YtfgmddnfhphdeaaGreatDoorPkB
import Derived.Test.YtfgmddnfhphdeaaGreatDoorQG
import Derived.Test.YtfgmddnfhphdeaaGreatDoorSgP
import Derived.BigRegion
namespace Go.Proofs.YtfgmddnfhphdeaaGreatDoor
open Go.RowKit
set_option linter.unusedVariables false
set_option linter.unusedSimpArgs false
section
open Go.RowKit
set_option linter.unusedVariables false
set_option linter.unusedSimpArgs false
set_option maxRecDepth 20000
theorem BF.give {w V:World} {y b:Nat} {Y:VState} {C:Array Value} (h:BF w y V Y) (r:V.heap[b]?=some (.cells C 49)) (c:Array Value):Res w.heap.size (V.setRow b c) Y Y:=by
 have hk:Kept b V (V.setRow b c):=(Kept.refl b V).setRow c
 have cp:CpdF w.heap.size (V.setRow b c) Y:=⟨own_keptB h.cpd.o7 hk (own_ne h.cpd.o7 r (by decide)),own_keptB h.cpd.o9 hk (own_ne h.cpd.o9 r (by decide)),own_keptB h.cpd.o11 hk (own_ne h.cpd.o11 r (by decide)),own_keptB h.cpd.o12 hk (own_ne h.cpd.o12 r (by decide)),own_keptB h.cpd.o15 hk (own_ne h.cpd.o15 r (by decide)),own_keptB h.cpd.o16 hk (own_ne h.cpd.o16 r (by decide)),own_keptB h.cpd.o21 hk (own_ne h.cpd.o21 r (by decide)),h.cpd.d15,h.cpd.d12⟩
 exact ⟨.refl _,⟨own_rtF cp.o7,own_els cp.o9 (fun i=>by rw [celL_len];rfl),own_els cp.o11 (fun i=>by rw [celL_len];rfl),own_nms cp.o12,own_byF cp.o15,own_byF cp.o16,own_nms cp.o21⟩,cp.nil,cp.nw⟩
theorem BF.make {w w' V:World} {X:VState} (hb:Below w.heap.size w w') (hc:CpdF w.heap.size w' X) (hV:w'.alloc (.cells (cel (sState X)) 49)=V):BF w w'.heap.size V X:=by
 have hbv:Below w'.heap.size w' V:=by rw [←hV];exact (Below.refl _ _).alloc (Nat.le_refl _) _
 refine ⟨hb.trans (hbv.mono hb.size),?_,hc.below hbv⟩
 rw [←hV]
 exact heap_new rfl
theorem src_cel {w:World} {b k:Nat} {l:List Seg} {t:TypeId} (hk:slen l=k) (h:w.heap[b]?=some (.cells (cel l) t)):Src w k (some ⟨b,0,none⟩) 1 1 (celL l) :=
 ⟨(fun e=>by cases e),by rw [celL_len,hk,Nat.one_mul],celL_one l,.inr ⟨b,0,rfl,some_lt h,fun j u hj=>by
  rw [Nat.zero_add,row_cell h]
  show (celL l).toArray[j]?=some u
  rw [List.getElem?_toArray]
  exact hj⟩⟩
def bsE (n:Nat) (ps:Array (Nat × Value)):Sem Value:=Instr.buildSlice 35 n ps
theorem bsE_eq (n:Nat) (ps:Array (Nat × Value)):Instr.buildSlice 35 n ps=bsE n ps:=rfl
def svE (a:Addr) (v:Value):Sem Unit:=storeVar 34 a v
theorem svE_eq (a:Addr) (v:Value):storeVar 34 a v=svE a v:=rfl
theorem right_small {x:VState} (h:rightB x=true):x.f7.n≤65536∧x.f9.n≤8∧x.f11.n≤65536∧x.f12.n≤65536∧x.f15.n≤65536∧x.f16.n≤65536∧x.f21.n≤65536:=by
 unfold rightB at h
 rw [Bool.and_eq_true] at h
 have:=h.1
 unfold fitB at this
 simp only [Bool.and_eq_true,decide_eq_true_eq] at this
 omega
theorem small_rch {x:VState} (h:rightB x=true):Rch x:=by
 have:=right_small h
 unfold Rch
 omega
attribute [local go_sem ↓] lvState_eq svState_eq bdState_eq lvEth1_eq ixEth1_eq bsE_eq svE_eq eqoE_eq
end
section
open Go.RowKit
set_option linter.unusedVariables false
set_option linter.unusedSimpArgs false
set_option maxRecDepth 20000
attribute [local go_sem ↓] lvState_eq svState_eq bdState_eq sv24_eq lv24_eq
def lvSg (a:Addr):Sem Value:=loadVar 56 a
theorem lvSg_eq (a:Addr):loadVar 56 a=lvSg a:=rfl
def svSg (a:Addr) (v:Value):Sem Unit:=storeVar 56 a v
theorem svSg_eq (a:Addr) (v:Value):storeVar 56 a v=svSg a v:=rfl
def svDd (a:Addr) (v:Value):Sem Unit:=storeVar 58 a v
theorem svDd_eq (a:Addr) (v:Value):storeVar 58 a v=svDd a v:=rfl
def lvDd (a:Addr):Sem Value:=loadVar 58 a
theorem lvDd_eq (a:Addr):loadVar 58 a=lvDd a:=rfl
theorem lvDd_run {w:World} {b:Nat} {c:VDepositData} {t:TypeId} (h:w.heap[b]?=some (.cells (cel (sDepositData c)) t)):(lvDd ⟨b,0,none⟩).run Tryz.prog w=.ok (.agg (cel (sDepositData c))) w :=
 loadAt_var (load_row h 58 _ Tryz.underlying58 rfl (by rw [cel_size,slDepositData];kernel_rfl))
attribute [local go_sem ↓] lvSg_eq svSg_eq lvDd_eq svDd_eq
end
section
open Go.RowKit
set_option linter.unusedVariables false
set_option linter.unusedSimpArgs false
set_option maxRecDepth 20000
def bsK (n:Nat) (ps:Array (Nat × Value)):Sem Value:=Instr.buildSlice 88 n ps
theorem bsK_eq (n:Nat) (ps:Array (Nat × Value)):Instr.buildSlice 88 n ps=bsK n ps:=rfl
theorem bsK_1 (W:World) (c:Nat→Int):(bsK 1 #[(0,.agg (vs .u8 48 c))]).run Tryz.prog W=.ok (.slice (some ⟨W.heap.size,0,none⟩) 1 1) (W.alloc (.cells (vs .u8 48 c) 44)):=by kernel_rfl
theorem retState3 {fn : Func} {R : Ending → World → Prop} {a : Act} {w' : World} (t s s2 : Tmp) (b : Nat) (c : VState) (ty : TypeId) (v v2 : Value) (h : fn.results = #[.cell t 49, .tmp s, .tmp s2]) (hd : a.defers = []) (ht : a.tmps.getD t undef = .pointer (some ⟨b, 0, none⟩)) (hs : a.tmps.getD s undef = v) (hs2 : a.tmps.getD s2 undef = v2) (hr : w'.heap[b]? = some (.cells (cel (sState c)) ty))
    (hR:R (.returned (.tuple #[.agg (cel (sState c)),v,v2])) w'):bodyPost Tryz.prog fn R .ret a w':=by
 refine bodyPost_ret ?_ hd hR
 have hl:=loadAt_var (load_row (P:=Tryz.prog) hr 49 _ Tryz.underlying49 rfl (by rw [cel_size,slState];kernel_rfl))
 rw [Array.getD_eq_getD_getElem?] at ht hs hs2
 simp [results,h,ht,hs,hs2,hl,asAddr]
theorem twB (a b:Nat→Int) (j:Nat):0≤tw a b j∧tw a b j < 256:=shaV_bd ..
theorem domB (x:VState) (k e:Int) (j:Nat):0≤domV x k e j∧domV x k e j < 256:=by
 unfold domV dmV
 split
 ·unfold kdB nmB;omega
 ·exact twB ..
attribute [local go_sem ↓] lvState_eq svState_eq bdState_eq sv24_eq lv24_eq sv8_eq ix22_eq bs22_eq bsK_eq lvSg_eq lvKy_eq ixValidator_eq
theorem val_key {w:World} {b o:Nat} {v:VValidator} (h:w.rangeAt b o (celL (sValidator v))) (j:Nat) (hj:j < 48):w.cell? ⟨b,o+j,none⟩=some (.int .u8 (v.f0 j)):=by
 refine h j _ ?_
 show ((List.range 48).map (Seg.get (.by 48 v.f0))++celL _)[j]?=_
 rw [List.getElem?_append_left (by simp;exact hj),List.getElem?_map,List.getElem?_range hj]
 rfl
end
section
open Go.RowKit
set_option linter.unusedVariables false
set_option linter.unusedSimpArgs false
set_option maxRecDepth 20000
attribute [local go_sem ↓] lvState_eq svState_eq bdState_eq
set_option maxHeartbeats 4000000 in
theorem told_any (a b : VState) (p q : Option Addr) (n cp cq : Nat) (f : Nat → Int) (e : Int) (w : World) (ha : OkState a) (ia : InW w a) (ib : InW w b) (h : SimF a b) (hp : Rts w p n cp f) (hq : Rts w q n cq f) (hn : n ≤ 140737488355328) :
    Calls Tryz.prog 9 #[.agg (cel (sState a)),.agg (cel (sState b)),.slice p n cp,.slice q n cq,.int .i64 e,.int .i64 e] w fun e' w'=>e'=.returned (.bool true)∧Below w.heap.size w w':=by
 obtain ⟨W0,hW0⟩:∃ W,(w.alloc (.cells (cel (sState a)) 49)).alloc (.cells (cel (sState b)) 49)=W:=⟨_,rfl⟩
 have r0:W0.heap[w.heap.size]?=some (.cells (cel (sState a)) 49):=by rw [←hW0];exact (heap_old (by simp)).trans (heap_new rfl)
 have r1:W0.heap[w.heap.size+1]?=some (.cells (cel (sState b)) 49):=by rw [←hW0];exact heap_new (by simp)
 have hB0:Below w.heap.size w W0:=by rw [←hW0];exact ((Below.refl _ _).alloc (Nat.le_refl _) _).alloc (by simp) _
 have hsr:=rsame_true p q n cp cq f f W0 (hp.below hB0) (hq.below hB0) (fun _ _=>rfl) hn
 have hss:∀ W,Up W0 W→Calls Tryz.prog 10 #[.agg (cel (sState a)),.agg (cel (sState b))] W fun e w'=>e=.returned (.bool true)∧Below W.heap.size W w':=fun W hW=>rsame_sim a b W ha (ia.below (upT hB0 hW)) (ib.below (upT hB0 hW)) h
 have hla:∀ W,Up W0 W→(lvState ⟨w.heap.size,0,none⟩).run Tryz.prog W=.ok (.agg (cel (sState a))) W:=fun W hW=>lvState_run (upR hW r0)
 have hlb:∀ W,Up W0 W→(lvState ⟨w.heap.size+1,0,none⟩).run Tryz.prog W=.ok (.agg (cel (sState b))) W:=fun W hW=>lvState_run (upR hW r1)
 have HB:=hid hB0
 have HWo:=hid hW0
 have HSR:=hid hsr
 have HSS:=hid hss
 have HLA:=hid hla
 have HLB:=hid hlb
 clear hB0 hW0 hsr hss hla hlb r0 r1 ha ia ib h hp hq
 go_enter Tryz.func9,Tryz.ntmps9
 go_upto_region 1 with fail
 rw [HWo.out]
 clear HWo
 go_wp2_with (first
  | (go_at_call 28; refine HSR.out.mono ?_; rintro e' w1 ⟨rfl, hb1⟩; have la := HLA.out w1 hb1; have lb := HLB.out w1 hb1; have HB1 := hid hb1; clear hb1)
  | (go_at_call 10; refine (HSS.out w1 HB1.out).mono ?_; rintro e' w2 ⟨rfl, hb2⟩))
 go_ret
 exact ⟨rfl,upT HB.out (upT HB1.out hb2)⟩
def Lns (x:VState):Prop:=x.f11.n≤9223372036854775807∧x.f21.n≤9223372036854775807∧x.f12.n≤9223372036854775807
def bdE (ps:Array (Nat × Value)):Sem Value:=Instr.build 34 ps
theorem bdE_eq (ps:Array (Nat × Value)):Instr.build 34 ps=bdE ps:=rfl
def bdSg (ps:Array (Nat × Value)):Sem Value:=Instr.build 56 ps
theorem bdSg_eq (ps:Array (Nat × Value)):Instr.build 56 ps=bdSg ps:=rfl
theorem right_z:rightB oState=true:=by kernel_rfl
theorem lns_z:Lns oState:=⟨Nat.zero_le _,Nat.zero_le _,Nat.zero_le _⟩
attribute [local go_sem ↓] bdE_eq bdSg_eq
end
section
open Go.RowKit
set_option linter.unusedVariables false
set_option linter.unusedSimpArgs false
set_option maxRecDepth 20000
theorem eqnilR2 (w:World) (a:Option Addr) (l c:Nat):(binOp .eql 32 (.slice a l c) (.slice none 0 0)).run Tryz.prog w=.ok (.bool a.isNone) w:=by
 simp only [binOp]
 simp [run_equal_slice_nil w 32 24 a l c Tryz.underlying32]
set_option maxHeartbeats 1000000 in
theorem clR (a : Option Addr) (n c : Nat) (news : List Value) (w : World) (hs : Src w 32 a n c news) (hb : n * 32 ≤ 140737488351232) :
    Calls Tryz.prog 49 #[.slice a n c] w fun e w'=>∃ a' c',e=.returned (.slice a' n c')∧w'.ownsRow w.heap.size 24 32 (.slice a' n c') n news∧Below w.heap.size w w':=by
 cases a with
 | none =>
  obtain ⟨rfl,rfl⟩:=hs.1 rfl
  obtain rfl:news=[]:=List.length_eq_zero_iff.1 (by rw [hs.2.1,Nat.zero_mul])
  have q:=eqnilR2 w none 0 0
  go_enter Tryz.func49,Tryz.ntmps49
  go_wp2
  go_ret
  exact ⟨none,0,rfl,World.ownsRow_nil _ _ _ _,Below.refl _ _⟩
 | some x =>
  obtain ⟨i,hi,hz0,hz1,hz2⟩:=info_out (P:=Tryz.prog) (t:=24) (z:=.agg (vs .u8 32 fun _=>0)) (s:=32) (b:=32) (by kernel_rfl)
  have II:=hid (And.intro hi (And.intro hz0 (And.intro hz1 hz2)))
  have HS:=hid (hs.below ((Below.refl w.heap.size w).alloc (Nat.le_refl _) (.cells #[] 24)))
  have q:=eqnilR2 w (some x) n c
  clear hs hi hz0 hz1 hz2
  go_enter Tryz.func49,Tryz.ntmps49
  go_wp2_with (at_builtin;refine app_src _ rfl _ _ 32 rfl w.heap.size 24 i (.agg (vs .u8 32 fun _=>0)) 32 32 Tryz.underlying32 II.out.1 II.out.2.1 II.out.2.2.1 II.out.2.2.2 (by simp [Value.cells,vs_size]) (by omega) _ 0 [] rfl (World.ownsRow_made _ #[] 0 (Nat.le_refl _) (Nat.zero_le _) rfl) _ _ _ news rfl HS.out (by unfold maxLen;omega) (by omega) (by simp) ?_;intro v6 w6 ho hg;obtain ⟨a6,c6,rfl⟩:=owns_form ho)
  go_ret
  rw [Nat.zero_add,List.nil_append] at ho
  exact ⟨a6,c6,rfl,ho,below_grownS ((Below.refl _ _).alloc (Nat.le_refl _) _) (World.ownsRow_made (e:=24) (size:=32) _ #[] 0 (Nat.le_refl _) (Nat.zero_le _) rfl) (by simp) hg⟩
theorem eqnilE (w:World) (a:Option Addr) (l c:Nat):(binOp .eql 35 (.slice a l c) (.slice none 0 0)).run Tryz.prog w=.ok (.bool a.isNone) w:=by
 simp only [binOp]
 simp [run_equal_slice_nil w 35 34 a l c Tryz.underlying35]
set_option maxHeartbeats 1000000 in
theorem clE (a : Option Addr) (n c : Nat) (news : List Value) (w : World) (hs : Src w 65 a n c news) (hb : n * 72 ≤ 140737488351232) :
    Calls Tryz.prog 50 #[.slice a n c] w fun e w'=>∃ a' c',e=.returned (.slice a' n c')∧w'.ownsRow w.heap.size 34 65 (.slice a' n c') n news∧Below w.heap.size w w':=by
 cases a with
 | none =>
  obtain ⟨rfl,rfl⟩:=hs.1 rfl
  obtain rfl:news=[]:=List.length_eq_zero_iff.1 (by rw [hs.2.1,Nat.zero_mul])
  have q:=eqnilE w none 0 0
  go_enter Tryz.func50,Tryz.ntmps50
  go_wp2
  go_ret
  exact ⟨none,0,rfl,World.ownsRow_nil _ _ _ _,Below.refl _ _⟩
 | some x =>
  obtain ⟨i,hi,hz0,hz1,hz2⟩:=info_out (P:=Tryz.prog) (t:=34) (z:=.agg (cel (sEth1 oEth1))) (s:=65) (b:=72) (by kernel_rfl)
  have II:=hid (And.intro hi (And.intro hz0 (And.intro hz1 hz2)))
  have HS:=hid (hs.below ((Below.refl w.heap.size w).alloc (Nat.le_refl _) (.cells #[] 34)))
  have q:=eqnilE w (some x) n c
  clear hs hi hz0 hz1 hz2
  go_enter Tryz.func50,Tryz.ntmps50
  go_wp2_with (at_builtin;refine app_src _ rfl _ _ 35 rfl w.heap.size 34 i (.agg (cel (sEth1 oEth1))) 65 72 Tryz.underlying35 II.out.1 II.out.2.1 II.out.2.2.1 II.out.2.2.2 (by show (cel _).size=_;rw [cel_size];rfl) (by omega) _ 0 [] rfl (World.ownsRow_made _ #[] 0 (Nat.le_refl _) (Nat.zero_le _) rfl) _ _ _ news rfl HS.out (by unfold maxLen;omega) (by omega) (by simp) ?_;intro v6 w6 ho hg;obtain ⟨a6,c6,rfl⟩:=owns_form ho)
  go_ret
  rw [Nat.zero_add,List.nil_append] at ho
  exact ⟨a6,c6,rfl,ho,below_grownS ((Below.refl _ _).alloc (Nat.le_refl _) _) (World.ownsRow_made (e:=34) (size:=65) _ #[] 0 (Nat.le_refl _) (Nat.zero_le _) rfl) (by simp) hg⟩
theorem eqnilV (w:World) (a:Option Addr) (l c:Nat):(binOp .eql 36 (.slice a l c) (.slice none 0 0)).run Tryz.prog w=.ok (.bool a.isNone) w:=by
 simp only [binOp]
 simp [run_equal_slice_nil w 36 74 a l c Tryz.underlying36]
set_option maxHeartbeats 1000000 in
theorem clV (a : Option Addr) (n c : Nat) (news : List Value) (w : World) (hs : Src w 86 a n c news) (hb : n * 128 ≤ 140737488351232) :
    Calls Tryz.prog 51 #[.slice a n c] w fun e w'=>∃ a' c',e=.returned (.slice a' n c')∧w'.ownsRow w.heap.size 74 86 (.slice a' n c') n news∧Below w.heap.size w w':=by
 cases a with
 | none =>
  obtain ⟨rfl,rfl⟩:=hs.1 rfl
  obtain rfl:news=[]:=List.length_eq_zero_iff.1 (by rw [hs.2.1,Nat.zero_mul])
  have q:=eqnilV w none 0 0
  go_enter Tryz.func51,Tryz.ntmps51
  go_wp2
  go_ret
  exact ⟨none,0,rfl,World.ownsRow_nil _ _ _ _,Below.refl _ _⟩
 | some x =>
  obtain ⟨i,hi,hz0,hz1,hz2⟩:=info_out (P:=Tryz.prog) (t:=74) (z:=.agg (cel (sValidator oValidator))) (s:=86) (b:=128) (by kernel_rfl)
  have II:=hid (And.intro hi (And.intro hz0 (And.intro hz1 hz2)))
  have HS:=hid (hs.below ((Below.refl w.heap.size w).alloc (Nat.le_refl _) (.cells #[] 74)))
  have q:=eqnilV w (some x) n c
  clear hs hi hz0 hz1 hz2
  go_enter Tryz.func51,Tryz.ntmps51
  go_wp2_with (at_builtin;refine app_src _ rfl _ _ 36 rfl w.heap.size 74 i (.agg (cel (sValidator oValidator))) 86 128 Tryz.underlying36 II.out.1 II.out.2.1 II.out.2.2.1 II.out.2.2.2 (by show (cel _).size=_;rw [cel_size];rfl) (by omega) _ 0 [] rfl (World.ownsRow_made _ #[] 0 (Nat.le_refl _) (Nat.zero_le _) rfl) _ _ _ news rfl HS.out (by unfold maxLen;omega) (by omega) (by simp) ?_;intro v6 w6 ho hg;obtain ⟨a6,c6,rfl⟩:=owns_form ho)
  go_ret
  rw [Nat.zero_add,List.nil_append] at ho
  exact ⟨a6,c6,rfl,ho,below_grownS ((Below.refl _ _).alloc (Nat.le_refl _) _) (World.ownsRow_made (e:=74) (size:=86) _ #[] 0 (Nat.le_refl _) (Nat.zero_le _) rfl) (by simp) hg⟩
theorem eqnilU (w:World) (a:Option Addr) (l c:Nat):(binOp .eql 37 (.slice a l c) (.slice none 0 0)).run Tryz.prog w=.ok (.bool a.isNone) w:=by
 simp only [binOp]
 simp [run_equal_slice_nil w 37 22 a l c Tryz.underlying37]
set_option maxHeartbeats 1000000 in
theorem clU (a : Option Addr) (n c : Nat) (news : List Value) (w : World) (hs : Src w 1 a n c news) (hb : n * 8 ≤ 140737488351232) :
    Calls Tryz.prog 52 #[.slice a n c] w fun e w'=>∃ a' c',e=.returned (.slice a' n c')∧w'.ownsRow w.heap.size 22 1 (.slice a' n c') n news∧Below w.heap.size w w':=by
 cases a with
 | none =>
  obtain ⟨rfl,rfl⟩:=hs.1 rfl
  obtain rfl:news=[]:=List.length_eq_zero_iff.1 (by rw [hs.2.1,Nat.zero_mul])
  have q:=eqnilU w none 0 0
  go_enter Tryz.func52,Tryz.ntmps52
  go_wp2
  go_ret
  exact ⟨none,0,rfl,World.ownsRow_nil _ _ _ _,Below.refl _ _⟩
 | some x =>
  obtain ⟨i,hi,hz0,hz1,hz2⟩:=info_out (P:=Tryz.prog) (t:=22) (z:=.int .u64 0) (s:=1) (b:=8) (by kernel_rfl)
  have II:=hid (And.intro hi (And.intro hz0 (And.intro hz1 hz2)))
  have HS:=hid (hs.below ((Below.refl w.heap.size w).alloc (Nat.le_refl _) (.cells #[] 22)))
  have q:=eqnilU w (some x) n c
  clear hs hi hz0 hz1 hz2
  go_enter Tryz.func52,Tryz.ntmps52
  go_wp2_with (at_builtin;refine app_src _ rfl _ _ 37 rfl w.heap.size 22 i (.int .u64 0) 1 8 Tryz.underlying37 II.out.1 II.out.2.1 II.out.2.2.1 II.out.2.2.2 (by rfl) (by omega) _ 0 [] rfl (World.ownsRow_made _ #[] 0 (Nat.le_refl _) (Nat.zero_le _) rfl) _ _ _ news rfl HS.out (by unfold maxLen;omega) (by omega) (by simp) ?_;intro v6 w6 ho hg;obtain ⟨a6,c6,rfl⟩:=owns_form ho)
  go_ret
  rw [Nat.zero_add,List.nil_append] at ho
  exact ⟨a6,c6,rfl,ho,below_grownS ((Below.refl _ _).alloc (Nat.le_refl _) _) (World.ownsRow_made (e:=22) (size:=1) _ #[] 0 (Nat.le_refl _) (Nat.zero_le _) rfl) (by simp) hg⟩
theorem eqnilB (w:World) (a:Option Addr) (l c:Nat):(binOp .eql 39 (.slice a l c) (.slice none 0 0)).run Tryz.prog w=.ok (.bool a.isNone) w:=by
 simp only [binOp]
 simp [run_equal_slice_nil w 39 5 a l c Tryz.underlying39]
set_option maxHeartbeats 1000000 in
theorem clB (a : Option Addr) (n c : Nat) (news : List Value) (w : World) (hs : Src w 1 a n c news) (hb : n * 1 ≤ 140737488351232) :
    Calls Tryz.prog 53 #[.slice a n c] w fun e w'=>∃ a' c',e=.returned (.slice a' n c')∧w'.ownsRow w.heap.size 5 1 (.slice a' n c') n news∧Below w.heap.size w w':=by
 cases a with
 | none =>
  obtain ⟨rfl,rfl⟩:=hs.1 rfl
  obtain rfl:news=[]:=List.length_eq_zero_iff.1 (by rw [hs.2.1,Nat.zero_mul])
  have q:=eqnilB w none 0 0
  go_enter Tryz.func53,Tryz.ntmps53
  go_wp2
  go_ret
  exact ⟨none,0,rfl,World.ownsRow_nil _ _ _ _,Below.refl _ _⟩
 | some x =>
  obtain ⟨i,hi,hz0,hz1,hz2⟩:=info_out (P:=Tryz.prog) (t:=5) (z:=.int .u8 0) (s:=1) (b:=1) (by kernel_rfl)
  have II:=hid (And.intro hi (And.intro hz0 (And.intro hz1 hz2)))
  have HS:=hid (hs.below ((Below.refl w.heap.size w).alloc (Nat.le_refl _) (.cells #[] 5)))
  have q:=eqnilB w (some x) n c
  clear hs hi hz0 hz1 hz2
  go_enter Tryz.func53,Tryz.ntmps53
  go_wp2_with (at_builtin;refine app_src _ rfl _ _ 39 rfl w.heap.size 5 i (.int .u8 0) 1 1 Tryz.underlying39 II.out.1 II.out.2.1 II.out.2.2.1 II.out.2.2.2 (by rfl) (by omega) _ 0 [] rfl (World.ownsRow_made _ #[] 0 (Nat.le_refl _) (Nat.zero_le _) rfl) _ _ _ news rfl HS.out (by unfold maxLen;omega) (by omega) (by simp) ?_;intro v6 w6 ho hg;obtain ⟨a6,c6,rfl⟩:=owns_form ho)
  go_ret
  rw [Nat.zero_add,List.nil_append] at ho
  exact ⟨a6,c6,rfl,ho,below_grownS ((Below.refl _ _).alloc (Nat.le_refl _) _) (World.ownsRow_made (e:=5) (size:=1) _ #[] 0 (Nat.le_refl _) (Nat.zero_le _) rfl) (by simp) hg⟩
end
section
open Go.RowKit
set_option linter.unusedVariables false
set_option linter.unusedSimpArgs false
set_option maxRecDepth 20000
theorem own_ge {w:World} {B k n c:Nat} {t:TypeId} {ad:Addr} {xs:List Value} (h:w.ownsRow B t k (.slice (some ad) n c) n xs):B≤ad.block∧ad.block < w.heap.size:=h.lt ad.block rfl
attribute [local go_sem ↓] lvState_eq svState_eq
end
section
open Go.RowKit
set_option linter.unusedVariables false
set_option linter.unusedSimpArgs false
set_option maxRecDepth 20000
theorem CpdF.down {B C:Nat} {w:World} {X:VState} (h:CpdF B w X) (hC:C≤B):CpdF C w X:=⟨own_down h.o7 hC,own_down h.o9 hC,own_down h.o11 hC,own_down h.o12 hC,own_down h.o15 hC,own_down h.o16 hC,own_down h.o21 hC,h.d15,h.d12⟩
theorem BF.own {w w1 w2:World} {y:Nat} {C:Array Value} {X:VState} (hy:w.heap.size≤y) (h1:Up w w1) (h2:Up w1 w2) (r:w2.heap[y]?=some (.cells C 49)) (hc:CpdF w1.heap.size w2 X) (hz:C.size=(cel (sState X)).size):BF w y (w2.setRow y (cel (sState X))) X∧CpdF w1.heap.size (w2.setRow y (cel (sState X))) X:=by
 have hk:Kept y w2 (w2.setRow y (cel (sState X))):=(Kept.refl y w2).setRow _
 have hc2:CpdF w1.heap.size (w2.setRow y (cel (sState X))) X:=⟨own_keptB hc.o7 hk (own_ne hc.o7 r (by decide)),own_keptB hc.o9 hk (own_ne hc.o9 r (by decide)),own_keptB hc.o11 hk (own_ne hc.o11 r (by decide)),own_keptB hc.o12 hk (own_ne hc.o12 r (by decide)),own_keptB hc.o15 hk (own_ne hc.o15 r (by decide)),own_keptB hc.o16 hk (own_ne hc.o16 r (by decide)),own_keptB hc.o21 hk (own_ne hc.o21 r (by decide)),hc.d15,hc.d12⟩
 exact ⟨⟨below_row (upT h1 h2) hy _,setRow_at r,hc2.down h1.size⟩,hc2⟩
attribute [local go_sem ↓] lvState_eq svState_eq bdState_eq lvEth1_eq ixEth1_eq bsE_eq svE_eq eqoE_eq
end
section
open Go.RowKit
set_option linter.unusedVariables false
set_option linter.unusedSimpArgs false
set_option maxRecDepth 20000
theorem ranged {w:World} {g:Nat} {t:TypeId} {a b:List Value} {C:Array Value} (h:w.heap[g]?=some (.cells C t)) (l:List Value) (e:C=(a++(l++b)).toArray):w.rangeAt g a.length l:=by
 intro j v hj
 rw [row_cell h,e,List.getElem?_toArray,List.getElem?_append_right (by omega),Nat.add_sub_cancel_left,List.getElem?_append_left (List.getElem?_eq_some_iff.1 hj).1]
 exact hj
theorem lvSg_in {w:World} {g o:Nat} {s:Nat→Int} (h:w.rangeAt g o (bl s 96)):(lvSg ⟨g,o,none⟩).run Tryz.prog w=.ok (.agg (vs .u8 96 s)) w :=
 loadAt_var (run_loadAt_mid w g o 56 _ _ h Tryz.underlying56 rfl (by rw [List.length_map,List.length_range];kernel_rfl))
attribute [local go_sem ↓] lvState_eq lv24_eq sv24_eq lvSg_eq lvKy_eq bsK_eq lvHeader_eq ixValidator_eq lvValidator_eq
end
section
open Go.RowKit
set_option linter.unusedVariables false
set_option linter.unusedSimpArgs false
set_option maxRecDepth 20000
theorem apR_own (W : World) (B : Nat) (v : Value) (n : Nat) (m : Nat → Int) (ho : W.ownsRow B 24 32 v n (bl m (32 * n))) (ao : Option Addr) (len cap : Nat) (f : Nat → Int) (hb : Rts W ao len cap f) (hbd : (n + len) * 32 ≤ 140737488355328) (hB : B ≤ W.heap.size)
    (m':Nat→Int) (hm1:∀ q,q < 32*n→m' q=m q) (hm2:∀ q,q < 32*len→m' (32*n+q)=f q) (ty:TypeId) :
    ∃ v' w',(apR ty v (.slice ao len cap)).run Tryz.prog W=.ok v' w'∧w'.ownsRow B 24 32 v' (n+len) (bl m' (32*(n+len)))∧W.grownBy w' v.ownBlock:=by
 obtain ⟨i,hi,hz0,hz1,hz2⟩:=infoR
 have hzz:(Value.agg (vs .u8 32 fun _=>0)).cells.size=32:=by simp [Value.cells,vs_size]
 have e:bl m (32*n)++bl f (32*len)=bl m' (32*(n+len)):=by
  unfold bl
  rw [Nat.mul_add,List.range_add,List.map_append,List.map_map]
  congr 1
  ·exact List.map_congr_left fun j hj=>by rw [hm1 j (List.mem_range.1 hj)]
  ·refine List.map_congr_left fun j hj=>?_
   show Value.int .u8 (f j)=Value.int .u8 (m' (32*n+j))
   rw [hm2 j (List.mem_range.1 hj)]
 rcases hb with ⟨rfl,rfl,rfl⟩ | ⟨x0,rfl,rfl⟩ | ⟨b,off,rfl,hlc,hbl,hc⟩
 ·have h:=run_append_owned_none (P:=Tryz.prog) (w:=W) B 32 ty 24 i 32 Tryz.underlying32 hi _ n _ ho
  refine ⟨_,_,h,?_,⟨rfl,rfl,rfl,Nat.le_refl _,fun _ _ _=>rfl⟩⟩
  rw [←e]
  simpa [bl] using ho
 ·obtain ⟨v',w',hrun,ho',hg,_⟩:=run_append_own_at (P:=Tryz.prog) W B 32 ty 24 i _ 32 32 Tryz.underlying32 hi hz0 hz1 hz2 hzz (by decide) _ n _ ho x0 0 cap (bl f (32*0)) (by rw [bl_len])
   (fun j u hj=>by
    have:=(bl_get f (32*0) j u hj).1
    omega) (bl_one f _) (by unfold maxLen;omega) (by omega) hB
  exact ⟨v',w',hrun,by rw [←e];exact ho',hg⟩
 ·obtain ⟨v',w',hrun,ho',hg,_⟩:=run_append_own_at (P:=Tryz.prog) W B 32 ty 24 i _ 32 32 Tryz.underlying32 hi hz0 hz1 hz2 hzz (by decide) _ n _ ho ⟨b,off,none⟩ len cap (bl f (32*len)) (by rw [bl_len];omega)
   (fun j u hj=>by
    obtain ⟨h1,rfl⟩:=bl_get f (32*len) j u hj
    rw [addr_add]
    exact hc j h1) (bl_one f _) (by unfold maxLen;omega) (by omega) hB
  exact ⟨v',w',hrun,by rw [←e];exact ho',hg⟩
attribute [local go_sem ↓] ixKy_eq lvKy_eq svKy_eq sv24_eq lv24_eq lvSg_eq bs22_eq
end
end Go.Proofs.YtfgmddnfhphdeaaGreatDoor
