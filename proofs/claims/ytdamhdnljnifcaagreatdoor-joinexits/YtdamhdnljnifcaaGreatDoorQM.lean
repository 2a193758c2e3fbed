/- A part. -/
import Derived.Test.YtdamhdnljnifcaaGreatDoorHdC
import Derived.Test.YtdamhdnljnifcaaGreatDoorQI
import Derived.Test.YtdamhdnljnifcaaGreatDoorStQ
import Derived.Test.YtdamhdnljnifcaaGreatDoorQJ
import Derived.Test.YtdamhdnljnifcaaGreatDoorQH
import Derived.Test.YtdamhdnljnifcaaGreatDoorPkB
import Derived.Test.YtdamhdnljnifcaaGreatDoorSgP
namespace Go.Proofs.YtdamhdnljnifcaaGreatDoor
open Go.RowKit
set_option linter.unusedVariables false
set_option linter.unusedSimpArgs false
section
open Go.RowKit
set_option linter.unusedVariables false
set_option linter.unusedSimpArgs false
set_option maxRecDepth 20000
attribute [local go_sem ↓] lvState_eq svState_eq bdState_eq
set_option maxHeartbeats 4000000 in
theorem told_any (a b : VState) (p q : Option Addr) (n cp cq : Nat) (f : Nat → Int) (e : Int) (w : World) (ha : OkState a) (ia : InW w a) (ib : InW w b) (h : SimF a b) (hp : Rts w p n cp f) (hq : Rts w q n cq f) (hn : n ≤ 140737488355328) :
    Calls Tryz.prog 10 #[.agg (cel (sState a)),.agg (cel (sState b)),.slice p n cp,.slice q n cq,.int .i64 e,.int .i64 e] w fun e' w'=>e'=.returned (.bool true)∧Below w.heap.size w w':=by
 obtain ⟨W0,hW0⟩:∃ W,(w.alloc (.cells (cel (sState a)) 49)).alloc (.cells (cel (sState b)) 49)=W:=⟨_,rfl⟩
 have r0:W0.heap[w.heap.size]?=some (.cells (cel (sState a)) 49):=by rw [←hW0];exact (heap_old (by simp)).trans (heap_new rfl)
 have r1:W0.heap[w.heap.size+1]?=some (.cells (cel (sState b)) 49):=by rw [←hW0];exact heap_new (by simp)
 have hB0:Below w.heap.size w W0:=by rw [←hW0];exact ((Below.refl _ _).alloc (Nat.le_refl _) _).alloc (by simp) _
 have hsr:=rsame_true p q n cp cq f f W0 (hp.below hB0) (hq.below hB0) (fun _ _=>rfl) hn
 have hss:∀ W,Up W0 W→Calls Tryz.prog 11 #[.agg (cel (sState a)),.agg (cel (sState b))] W fun e w'=>e=.returned (.bool true)∧Below W.heap.size W w':=fun W hW=>rsame_sim a b W ha (ia.below (upT hB0 hW)) (ib.below (upT hB0 hW)) h
 have hla:∀ W,Up W0 W→(lvState ⟨w.heap.size,0,none⟩).run Tryz.prog W=.ok (.agg (cel (sState a))) W:=fun W hW=>lvState_run (upR hW r0)
 have hlb:∀ W,Up W0 W→(lvState ⟨w.heap.size+1,0,none⟩).run Tryz.prog W=.ok (.agg (cel (sState b))) W:=fun W hW=>lvState_run (upR hW r1)
 have HB:=hid hB0
 have HWo:=hid hW0
 have HSR:=hid hsr
 have HSS:=hid hss
 have HLA:=hid hla
 have HLB:=hid hlb
 clear hB0 hW0 hsr hss hla hlb r0 r1 ha ia ib h hp hq
 go_enter Tryz.func10,Tryz.ntmps10
 go_upto_region 1 with fail
 rw [HWo.out]
 clear HWo
 go_wp2_with (first
  | (go_at_call 30; refine HSR.out.mono ?_; rintro e' w1 ⟨rfl, hb1⟩; have la := HLA.out w1 hb1; have lb := HLB.out w1 hb1; have HB1 := hid hb1; clear hb1)
  | (go_at_call 11; refine (HSS.out w1 HB1.out).mono ?_; rintro e' w2 ⟨rfl, hb2⟩))
 go_ret
 exact ⟨rfl,upT HB.out (upT HB1.out hb2)⟩
def Lns (x:VState):Prop:=x.f11.n≤9223372036854775807∧x.f21.n≤9223372036854775807∧x.f12.n≤9223372036854775807
def bdE (ps:Array (Nat × Value)):Sem Value:=Instr.build 34 ps
theorem bdE_eq (ps:Array (Nat × Value)):Instr.build 34 ps=bdE ps:=rfl
def bdSg (ps:Array (Nat × Value)):Sem Value:=Instr.build 56 ps
theorem bdSg_eq (ps:Array (Nat × Value)):Instr.build 56 ps=bdSg ps:=rfl
theorem right_z:rightB oState=true:=by kernel_rfl
theorem lns_z:Lns oState:=⟨Nat.zero_le _,Nat.zero_le _,Nat.zero_le _⟩
attribute [local go_sem ↓] bdE_eq bdSg_eq
end
section
open Go.RowKit
set_option linter.unusedVariables false
set_option linter.unusedSimpArgs false
set_option maxRecDepth 20000
theorem eqnilR2 (w:World) (a:Option Addr) (l c:Nat):(binOp .eql 32 (.slice a l c) (.slice none 0 0)).run Tryz.prog w=.ok (.bool a.isNone) w:=by
 simp only [binOp]
 simp [run_equal_slice_nil w 32 24 a l c Tryz.underlying32]
set_option maxHeartbeats 1000000 in
theorem clR (a : Option Addr) (n c : Nat) (news : List Value) (w : World) (hs : Src w 32 a n c news) (hb : n * 32 ≤ 140737488351232) :
    Calls Tryz.prog 56 #[.slice a n c] w fun e w'=>∃ a' c',e=.returned (.slice a' n c')∧w'.ownsRow w.heap.size 24 32 (.slice a' n c') n news∧Below w.heap.size w w':=by
 cases a with
 | none =>
  obtain ⟨rfl,rfl⟩:=hs.1 rfl
  obtain rfl:news=[]:=List.length_eq_zero_iff.1 (by rw [hs.2.1,Nat.zero_mul])
  have q:=eqnilR2 w none 0 0
  go_enter Tryz.func56,Tryz.ntmps56
  go_wp2
  go_ret
  exact ⟨none,0,rfl,World.ownsRow_nil _ _ _ _,Below.refl _ _⟩
 | some x =>
  obtain ⟨i,hi,hz0,hz1,hz2⟩:=info_out (P:=Tryz.prog) (t:=24) (z:=.agg (vs .u8 32 fun _=>0)) (s:=32) (b:=32) (by kernel_rfl)
  have II:=hid (And.intro hi (And.intro hz0 (And.intro hz1 hz2)))
  have HS:=hid (hs.below ((Below.refl w.heap.size w).alloc (Nat.le_refl _) (.cells #[] 24)))
  have q:=eqnilR2 w (some x) n c
  clear hs hi hz0 hz1 hz2
  go_enter Tryz.func56,Tryz.ntmps56
  go_wp2_with (at_builtin;refine app_src _ rfl _ _ 32 rfl w.heap.size 24 i (.agg (vs .u8 32 fun _=>0)) 32 32 Tryz.underlying32 II.out.1 II.out.2.1 II.out.2.2.1 II.out.2.2.2 (by simp [Value.cells,vs_size]) (by omega) _ 0 [] rfl (World.ownsRow_made _ #[] 0 (Nat.le_refl _) (Nat.zero_le _) rfl) _ _ _ news rfl HS.out (by unfold maxLen;omega) (by omega) (by simp) ?_;intro v6 w6 ho hg;obtain ⟨a6,c6,rfl⟩:=owns_form ho)
  go_ret
  rw [Nat.zero_add,List.nil_append] at ho
  exact ⟨a6,c6,rfl,ho,below_grownS ((Below.refl _ _).alloc (Nat.le_refl _) _) (World.ownsRow_made (e:=24) (size:=32) _ #[] 0 (Nat.le_refl _) (Nat.zero_le _) rfl) (by simp) hg⟩
theorem eqnilE (w:World) (a:Option Addr) (l c:Nat):(binOp .eql 35 (.slice a l c) (.slice none 0 0)).run Tryz.prog w=.ok (.bool a.isNone) w:=by
 simp only [binOp]
 simp [run_equal_slice_nil w 35 34 a l c Tryz.underlying35]
set_option maxHeartbeats 1000000 in
theorem clE (a : Option Addr) (n c : Nat) (news : List Value) (w : World) (hs : Src w 65 a n c news) (hb : n * 72 ≤ 140737488351232) :
    Calls Tryz.prog 57 #[.slice a n c] w fun e w'=>∃ a' c',e=.returned (.slice a' n c')∧w'.ownsRow w.heap.size 34 65 (.slice a' n c') n news∧Below w.heap.size w w':=by
 cases a with
 | none =>
  obtain ⟨rfl,rfl⟩:=hs.1 rfl
  obtain rfl:news=[]:=List.length_eq_zero_iff.1 (by rw [hs.2.1,Nat.zero_mul])
  have q:=eqnilE w none 0 0
  go_enter Tryz.func57,Tryz.ntmps57
  go_wp2
  go_ret
  exact ⟨none,0,rfl,World.ownsRow_nil _ _ _ _,Below.refl _ _⟩
 | some x =>
  obtain ⟨i,hi,hz0,hz1,hz2⟩:=info_out (P:=Tryz.prog) (t:=34) (z:=.agg (cel (sEth1 oEth1))) (s:=65) (b:=72) (by kernel_rfl)
  have II:=hid (And.intro hi (And.intro hz0 (And.intro hz1 hz2)))
  have HS:=hid (hs.below ((Below.refl w.heap.size w).alloc (Nat.le_refl _) (.cells #[] 34)))
  have q:=eqnilE w (some x) n c
  clear hs hi hz0 hz1 hz2
  go_enter Tryz.func57,Tryz.ntmps57
  go_wp2_with (at_builtin;refine app_src _ rfl _ _ 35 rfl w.heap.size 34 i (.agg (cel (sEth1 oEth1))) 65 72 Tryz.underlying35 II.out.1 II.out.2.1 II.out.2.2.1 II.out.2.2.2 (by show (cel _).size=_;rw [cel_size];rfl) (by omega) _ 0 [] rfl (World.ownsRow_made _ #[] 0 (Nat.le_refl _) (Nat.zero_le _) rfl) _ _ _ news rfl HS.out (by unfold maxLen;omega) (by omega) (by simp) ?_;intro v6 w6 ho hg;obtain ⟨a6,c6,rfl⟩:=owns_form ho)
  go_ret
  rw [Nat.zero_add,List.nil_append] at ho
  exact ⟨a6,c6,rfl,ho,below_grownS ((Below.refl _ _).alloc (Nat.le_refl _) _) (World.ownsRow_made (e:=34) (size:=65) _ #[] 0 (Nat.le_refl _) (Nat.zero_le _) rfl) (by simp) hg⟩
theorem eqnilV (w:World) (a:Option Addr) (l c:Nat):(binOp .eql 36 (.slice a l c) (.slice none 0 0)).run Tryz.prog w=.ok (.bool a.isNone) w:=by
 simp only [binOp]
 simp [run_equal_slice_nil w 36 75 a l c Tryz.underlying36]
set_option maxHeartbeats 1000000 in
theorem clV (a : Option Addr) (n c : Nat) (news : List Value) (w : World) (hs : Src w 86 a n c news) (hb : n * 128 ≤ 140737488351232) :
    Calls Tryz.prog 58 #[.slice a n c] w fun e w'=>∃ a' c',e=.returned (.slice a' n c')∧w'.ownsRow w.heap.size 75 86 (.slice a' n c') n news∧Below w.heap.size w w':=by
 cases a with
 | none =>
  obtain ⟨rfl,rfl⟩:=hs.1 rfl
  obtain rfl:news=[]:=List.length_eq_zero_iff.1 (by rw [hs.2.1,Nat.zero_mul])
  have q:=eqnilV w none 0 0
  go_enter Tryz.func58,Tryz.ntmps58
  go_wp2
  go_ret
  exact ⟨none,0,rfl,World.ownsRow_nil _ _ _ _,Below.refl _ _⟩
 | some x =>
  obtain ⟨i,hi,hz0,hz1,hz2⟩:=info_out (P:=Tryz.prog) (t:=75) (z:=.agg (cel (sValidator oValidator))) (s:=86) (b:=128) (by kernel_rfl)
  have II:=hid (And.intro hi (And.intro hz0 (And.intro hz1 hz2)))
  have HS:=hid (hs.below ((Below.refl w.heap.size w).alloc (Nat.le_refl _) (.cells #[] 75)))
  have q:=eqnilV w (some x) n c
  clear hs hi hz0 hz1 hz2
  go_enter Tryz.func58,Tryz.ntmps58
  go_wp2_with (at_builtin;refine app_src _ rfl _ _ 36 rfl w.heap.size 75 i (.agg (cel (sValidator oValidator))) 86 128 Tryz.underlying36 II.out.1 II.out.2.1 II.out.2.2.1 II.out.2.2.2 (by show (cel _).size=_;rw [cel_size];rfl) (by omega) _ 0 [] rfl (World.ownsRow_made _ #[] 0 (Nat.le_refl _) (Nat.zero_le _) rfl) _ _ _ news rfl HS.out (by unfold maxLen;omega) (by omega) (by simp) ?_;intro v6 w6 ho hg;obtain ⟨a6,c6,rfl⟩:=owns_form ho)
  go_ret
  rw [Nat.zero_add,List.nil_append] at ho
  exact ⟨a6,c6,rfl,ho,below_grownS ((Below.refl _ _).alloc (Nat.le_refl _) _) (World.ownsRow_made (e:=75) (size:=86) _ #[] 0 (Nat.le_refl _) (Nat.zero_le _) rfl) (by simp) hg⟩
theorem eqnilU (w:World) (a:Option Addr) (l c:Nat):(binOp .eql 37 (.slice a l c) (.slice none 0 0)).run Tryz.prog w=.ok (.bool a.isNone) w:=by
 simp only [binOp]
 simp [run_equal_slice_nil w 37 22 a l c Tryz.underlying37]
set_option maxHeartbeats 1000000 in
theorem clU (a : Option Addr) (n c : Nat) (news : List Value) (w : World) (hs : Src w 1 a n c news) (hb : n * 8 ≤ 140737488351232) :
    Calls Tryz.prog 59 #[.slice a n c] w fun e w'=>∃ a' c',e=.returned (.slice a' n c')∧w'.ownsRow w.heap.size 22 1 (.slice a' n c') n news∧Below w.heap.size w w':=by
 cases a with
 | none =>
  obtain ⟨rfl,rfl⟩:=hs.1 rfl
  obtain rfl:news=[]:=List.length_eq_zero_iff.1 (by rw [hs.2.1,Nat.zero_mul])
  have q:=eqnilU w none 0 0
  go_enter Tryz.func59,Tryz.ntmps59
  go_wp2
  go_ret
  exact ⟨none,0,rfl,World.ownsRow_nil _ _ _ _,Below.refl _ _⟩
 | some x =>
  obtain ⟨i,hi,hz0,hz1,hz2⟩:=info_out (P:=Tryz.prog) (t:=22) (z:=.int .u64 0) (s:=1) (b:=8) (by kernel_rfl)
  have II:=hid (And.intro hi (And.intro hz0 (And.intro hz1 hz2)))
  have HS:=hid (hs.below ((Below.refl w.heap.size w).alloc (Nat.le_refl _) (.cells #[] 22)))
  have q:=eqnilU w (some x) n c
  clear hs hi hz0 hz1 hz2
  go_enter Tryz.func59,Tryz.ntmps59
  go_wp2_with (at_builtin;refine app_src _ rfl _ _ 37 rfl w.heap.size 22 i (.int .u64 0) 1 8 Tryz.underlying37 II.out.1 II.out.2.1 II.out.2.2.1 II.out.2.2.2 (by rfl) (by omega) _ 0 [] rfl (World.ownsRow_made _ #[] 0 (Nat.le_refl _) (Nat.zero_le _) rfl) _ _ _ news rfl HS.out (by unfold maxLen;omega) (by omega) (by simp) ?_;intro v6 w6 ho hg;obtain ⟨a6,c6,rfl⟩:=owns_form ho)
  go_ret
  rw [Nat.zero_add,List.nil_append] at ho
  exact ⟨a6,c6,rfl,ho,below_grownS ((Below.refl _ _).alloc (Nat.le_refl _) _) (World.ownsRow_made (e:=22) (size:=1) _ #[] 0 (Nat.le_refl _) (Nat.zero_le _) rfl) (by simp) hg⟩
theorem eqnilB (w:World) (a:Option Addr) (l c:Nat):(binOp .eql 39 (.slice a l c) (.slice none 0 0)).run Tryz.prog w=.ok (.bool a.isNone) w:=by
 simp only [binOp]
 simp [run_equal_slice_nil w 39 5 a l c Tryz.underlying39]
set_option maxHeartbeats 1000000 in
theorem clB (a : Option Addr) (n c : Nat) (news : List Value) (w : World) (hs : Src w 1 a n c news) (hb : n * 1 ≤ 140737488351232) :
    Calls Tryz.prog 60 #[.slice a n c] w fun e w'=>∃ a' c',e=.returned (.slice a' n c')∧w'.ownsRow w.heap.size 5 1 (.slice a' n c') n news∧Below w.heap.size w w':=by
 cases a with
 | none =>
  obtain ⟨rfl,rfl⟩:=hs.1 rfl
  obtain rfl:news=[]:=List.length_eq_zero_iff.1 (by rw [hs.2.1,Nat.zero_mul])
  have q:=eqnilB w none 0 0
  go_enter Tryz.func60,Tryz.ntmps60
  go_wp2
  go_ret
  exact ⟨none,0,rfl,World.ownsRow_nil _ _ _ _,Below.refl _ _⟩
 | some x =>
  obtain ⟨i,hi,hz0,hz1,hz2⟩:=info_out (P:=Tryz.prog) (t:=5) (z:=.int .u8 0) (s:=1) (b:=1) (by kernel_rfl)
  have II:=hid (And.intro hi (And.intro hz0 (And.intro hz1 hz2)))
  have HS:=hid (hs.below ((Below.refl w.heap.size w).alloc (Nat.le_refl _) (.cells #[] 5)))
  have q:=eqnilB w (some x) n c
  clear hs hi hz0 hz1 hz2
  go_enter Tryz.func60,Tryz.ntmps60
  go_wp2_with (at_builtin;refine app_src _ rfl _ _ 39 rfl w.heap.size 5 i (.int .u8 0) 1 1 Tryz.underlying39 II.out.1 II.out.2.1 II.out.2.2.1 II.out.2.2.2 (by rfl) (by omega) _ 0 [] rfl (World.ownsRow_made _ #[] 0 (Nat.le_refl _) (Nat.zero_le _) rfl) _ _ _ news rfl HS.out (by unfold maxLen;omega) (by omega) (by simp) ?_;intro v6 w6 ho hg;obtain ⟨a6,c6,rfl⟩:=owns_form ho)
  go_ret
  rw [Nat.zero_add,List.nil_append] at ho
  exact ⟨a6,c6,rfl,ho,below_grownS ((Below.refl _ _).alloc (Nat.le_refl _) _) (World.ownsRow_made (e:=5) (size:=1) _ #[] 0 (Nat.le_refl _) (Nat.zero_le _) rfl) (by simp) hg⟩
end
section
open Go.RowKit
set_option linter.unusedVariables false
set_option linter.unusedSimpArgs false
set_option maxRecDepth 20000
theorem own_ge {w:World} {B k n c:Nat} {t:TypeId} {ad:Addr} {xs:List Value} (h:w.ownsRow B t k (.slice (some ad) n c) n xs):B≤ad.block∧ad.block < w.heap.size:=h.lt ad.block rfl
attribute [local go_sem ↓] lvState_eq svState_eq
end
section
open Go.RowKit
set_option linter.unusedVariables false
set_option linter.unusedSimpArgs false
set_option maxRecDepth 20000
attribute [local go_sem ↓] lvState_eq svState_eq bdState_eq lvValidator_eq svValidator_eq ixValidator_eq
set_option maxHeartbeats 1000000 in
theorem active_any (v : VValidator) (e : Int) (w : World) :
    Calls Tryz.prog 79 #[.agg (cel (sValidator v)),.int .u64 e] w fun e' w'=>e'=.returned (.bool (actB v e))∧Below w.heap.size w w':=by
 obtain ⟨W0,hW0⟩:∃ W,w.alloc (.cells (cel (sValidator v)) 75)=W:=⟨_,rfl⟩
 have r0:W0.heap[w.heap.size]?=some (.cells (cel (sValidator v)) 75):=by rw [←hW0];exact heap_new rfl
 have hB0:Below w.heap.size w W0:=by rw [←hW0];exact (Below.refl _ _).alloc (Nat.le_refl _) _
 have l5:=seg_nu r0 5 v.f5 rfl 83 rfl
 have l6:=seg_nu r0 6 v.f6 rfl 84 rfl
 have hE:actB v e=(decide (v.f5≤e) && decide (e < v.f6)):=rfl
 generalize v.f5=p at *
 generalize v.f6=q at *
 have HB:=hid hB0
 have HW:=hid hW0
 have HE:=hid hE
 clear hB0 hW0 r0 hE
 by_cases h:p≤e
 ·have d1:decide (p≤e)=true:=by simp [h]
  go_enter Tryz.func79,Tryz.ntmps79
  go_upto_region 1 with fail
  rw [HW.out]
  clear HW
  go_wp2
  go_ret
  exact ⟨ret_bool (by rw [HE.out,d1,Bool.true_and]),HB.out⟩
 ·have d1:decide (p≤e)=false:=by simp [h]
  go_enter Tryz.func79,Tryz.ntmps79
  go_upto_region 1 with fail
  rw [HW.out]
  clear HW
  go_wp2
  go_ret
  exact ⟨ret_bool (by rw [HE.out,d1,Bool.false_and]),HB.out⟩
set_option maxHeartbeats 2000000 in
theorem actives_any (x : VState) (e : Int) (w : World) (hx : Lk w x) :
    Calls Tryz.prog 133 #[.agg (cel (sState x)),.int .u64 e] w fun e' w'=>∃ a c,e'=.returned (.slice a (acL x.f11.z e x.f11.n).length c)∧Nml w' a (acL x.f11.z e x.f11.n)∧Below w.heap.size w w':=by
 obtain ⟨W0,hW0⟩:∃ W,w.alloc (.cells (cel (sState x)) 49)=W:=⟨_,rfl⟩
 have r0:W0.heap[w.heap.size]?=some (.cells (cel (sState x)) 49):=by rw [←hW0];exact heap_new rfl
 have hB0:Below w.heap.size w W0:=by rw [←hW0];exact (Below.refl _ _).alloc (Nat.le_refl _) _
 have z0:w.heap.size < W0.heap.size:=(Array.getElem?_eq_some_iff.1 r0).1
 have hcs:∀ W:World,Below W0.heap.size W0 W→W.cell? ⟨w.heap.size,721,none⟩=some (.slice x.f11.a x.f11.n x.f11.c):=fun W h=>cS11 ((h.block _ z0).trans r0)
 have hel:=hx.el.below hB0
 have hnb:=hx.nb
 generalize x.f11.a=A at *
 generalize x.f11.n=n at *
 generalize x.f11.c=C at *
 generalize x.f11.z=z at *
 have HB:=hid hB0
 have HW:=hid hW0
 have HC:=hid hcs
 have HE:=hid hel
 clear hB0 hW0 r0 hcs hel hx
 go_enter Tryz.func133,Tryz.ntmps133
 go_upto_region 1 with fail
 rw [HW.out]
 clear HW
 have cc:=HC.out W0 (Below.refl _ _)
 have zv:=zeroValidator
 go_wp2
 go_loopw [5,11] (fun v c wr=>∃ (k:Nat) (v':Value),k≤n∧v=v'∧c=.int .i64 k∧wr.ownsRow W0.heap.size 22 1 v' (acL z e k).length (iv6 (acL z e k))∧Below W0.heap.size W0 wr) (fun _ c _=>n - (intOf c).toNat)
 case atStart=>exact ⟨0,_,by omega,rfl,rfl,World.ownsRow_nil _ _ _ _,Below.refl _ _⟩
 case round =>
  obtain ⟨k,v,hk,ev,rfl,ho,hw⟩:=hrel
  obtain rfl:=ev.symm
  clear ev
  have c0:=HC.out wr hw
  by_cases hkn:k < n
  ·have k1:(k:Int) < (n:Int):=by omega
   have k2:(0:Int)≤(k:Int):=by omega
   have kw:IntKind.u64.wrap (k:Int)=(k:Int):=by rw [IntKind.wrap_u64];omega
   rcases HE.out.below hw with h0 | ⟨b,off,ea,hbl,hc⟩
   ·omega
   subst ea
   have lv:=lvValidator_at (hc k hkn)
   have ix:=fun W=>ixValidator_run W b off n C k hkn
   obtain ⟨P,eP⟩:∃ P,off+86*k=P:=⟨_,rfl⟩
   rw [eP] at lv
   simp only [eP] at ix
   have hact:=fun W:World=>active_any (z k) e W
   have hln:=acL_len z e k
   have hstep:acL z e (k+1)=if actB (z k) e=true then acL z e k++[(k:Int)] else acL z e k:=rfl
   obtain ⟨b',hb'⟩:∃ b,actB (z k) e=b:=⟨_,rfl⟩
   rw [hb'] at hact hstep
   obtain ⟨V,hV⟩:∃ V,z k=V:=⟨_,rfl⟩
   rw [hV] at lv hact
   have HACT:=hid hact
   have HO:=hid ho
   have HW:=hid hw
   have HST:=hid hstep
   have sv:=svValidator_newv wr oValidator V
   obtain ⟨W1,hW1⟩:∃ W,wr.alloc (.cells (cel (sValidator V)) 75)=W:=⟨_,rfl⟩
   rw [hW1] at sv
   have r1:W1.heap[wr.heap.size]?=some (.cells (cel (sValidator V)) 75):=by rw [←hW1];exact heap_new rfl
   have hE1:Below wr.heap.size wr W1:=by rw [←hW1];exact (Below.refl _ _).alloc (Nat.le_refl _) _
   obtain ⟨y,ey⟩:∃ y,wr.heap.size=y:=⟨_,rfl⟩
   rw [ey] at sv r1
   have lw:=lvValidator_row r1
   have ho':=own_below HO.out hE1
   have hw':=HW.out.trans (hE1.mono HW.out.size)
   clear HO HW
   have HO:=hid ho'
   have HW:=hid hw'
   clear hact ho hw hstep hc hbl eP hb' hV ho' hw' hE1 r1
   go_upto_region 5 with fail
   clear sv lv ix c0 hW1 ey
   cases b'
   ·go_wp2_with (go_at_call 79;refine (HACT.out _).mono ?_;rintro e' w1 ⟨rfl,hb1⟩)
    have ho1:=own_below HO.out hb1
    have hw1:=HW.out.trans (hb1.mono HW.out.size)
    go_roundw
    case rel=>exact ⟨k+1,_,by omega,rfl,by go_num,by rw [HST.out];exact ho1,hw1⟩
    case measure=>simp [intOf];omega
   ·go_upto_region 6 with (go_at_call 79;refine (HACT.out _).mono ?_;rintro e' w1 ⟨rfl,hb1⟩)
    have ho1:=own_below HO.out hb1
    have hw1:=HW.out.trans (hb1.mono HW.out.size)
    have HO1:=hid ho1
    have HW1:=hid hw1
    clear ho1 hw1 hb1 HO HW lw
    go_wp2_with (at_builtin;(refine wpList_append_one w1 rfl _ _ rfl W0.heap.size v (acL z e k) (k:Int) rfl HO1.out rfl (by omega) HW1.out.size ?_);intro v2 w2 ho2 hg2)
    have hb2:=below_grown HW1.out HO1.out HW1.out.size hg2
    go_roundw
    case rel=>exact ⟨k+1,_,by omega,rfl,by go_num,by rw [HST.out];exact ho2,hb2⟩
    case measure=>simp [intOf];omega
  ·obtain rfl:k=n:=by omega
   have HW:=hid hw
   have HO:=hid ho
   clear hw ho
   go_wp2
   obtain ⟨a',C',rfl,hn⟩:=own_nml HO.out
   go_ret
   exact ⟨a',C',rfl,hn,HB.out.trans (HW.out.mono (by omega))⟩
end
section
open Go.RowKit
set_option linter.unusedVariables false
set_option linter.unusedSimpArgs false
set_option maxRecDepth 20000
attribute [local go_sem ↓] lvState_eq svState_eq bdState_eq lvValidator_eq svValidator_eq ixValidator_eq
set_option maxHeartbeats 1000000 in
theorem epochOf_any (x : VState) (w : World) (h0 : 0 ≤ x.f2) (h1 : x.f2 < 1099511627776) :
    Calls Tryz.prog 134 #[.agg (cel (sState x))] w fun e' w'=>e'=.returned (.int .u64 (x.f2 / 4))∧Below w.heap.size w w':=by
 obtain ⟨W0,hW0⟩:∃ W,w.alloc (.cells (cel (sState x)) 49)=W:=⟨_,rfl⟩
 have r0:W0.heap[w.heap.size]?=some (.cells (cel (sState x)) 49):=by rw [←hW0];exact heap_new rfl
 have hB0:Below w.heap.size w W0:=by rw [←hW0];exact (Below.refl _ _).alloc (Nat.le_refl _) _
 have l2:=cS2 r0
 generalize x.f2=p at *
 have HB:=hid hB0
 have HW:=hid hW0
 clear hB0 hW0 r0
 go_enter Tryz.func134,Tryz.ntmps134
 go_upto_region 1 with fail
 rw [HW.out]
 clear HW
 go_wp2
 go_ret
 exact ⟨ret_int rfl,HB.out⟩
set_option maxHeartbeats 2000000 in
theorem churn_any (x : VState) (w : World) (hx : Lk w x) :
    Calls Tryz.prog 128 #[.agg (cel (sState x))] w fun e' w'=>e'=.returned (.int .u64 (chuS x))∧Below w.heap.size w w':=by
 obtain ⟨W0,hW0⟩:∃ W,w.alloc (.cells (cel (sState x)) 49)=W:=⟨_,rfl⟩
 have r0:W0.heap[w.heap.size]?=some (.cells (cel (sState x)) 49):=by rw [←hW0];exact heap_new rfl
 have hB0:Below w.heap.size w W0:=by rw [←hW0];exact (Below.refl _ _).alloc (Nat.le_refl _) _
 have z0:w.heap.size < W0.heap.size:=(Array.getElem?_eq_some_iff.1 r0).1
 have hld:∀ W:World,Below W0.heap.size W0 W→(lvState ⟨w.heap.size,0,none⟩).run Tryz.prog W=.ok (.agg (cel (sState x))) W:=fun W h=>lvState_run ((h.block _ z0).trans r0)
 have hx0:=hx.below hB0
 have hep:=fun W:World=>epochOf_any x W hx.sl.1 hx.sl.2
 have hac:∀ W:World,Below W0.heap.size W0 W→Calls Tryz.prog 133 #[.agg (cel (sState x)),.int .u64 (x.f2 / 4)] W fun e' w'=>∃ a c,e'=.returned (.slice a (acS x).length c)∧Nml w' a (acS x)∧Below W.heap.size W w':=fun W h=>actives_any x (x.f2 / 4) W (hx0.below h)
 have hch:chuS x=if ((acS x).length:Int) / 32 < 2 then 2 else ((acS x).length:Int) / 32:=rfl
 have hlen:(acS x).length≤65536:=Nat.le_trans (acL_len _ _ _) hx.nb
 generalize chuS x=R at *
 generalize x.f2 / 4=E at *
 generalize (acS x)=L at *
 obtain ⟨n,hn⟩:∃ n,L.length=n:=⟨_,rfl⟩
 rw [hn] at hac hch hlen
 have nw:IntKind.u64.wrap (n:Int)=(n:Int):=by rw [IntKind.wrap_u64];omega
 have n0:(0:Int)≤(n:Int):=by omega
 have n1:(n:Int)≤65536:=by omega
 have n2:IntKind.u64.wrap ((n:Int) / 32)=(n:Int) / 32:=by rw [IntKind.wrap_u64];omega
 have n3:IntKind.u64.wrap ((n:Int).tdiv 32)=(n:Int) / 32:=by rw [Int.tdiv_eq_ediv_of_nonneg n0];exact n2
 have hdr:Below W0.heap.size W0 W0.drew:=(Below.refl _ _).drew
 have HDR:=hid hdr
 have HB:=hid hB0
 have HW:=hid hW0
 have HLD:=hid hld
 have HEP:=hid hep
 have HAC:=hid hac
 have HCH:=hid hch
 clear hdr hB0 hW0 hld hep hac hx hx0 r0 hch hn
 by_cases h2:(n:Int) / 32 < 2
 ·go_enter Tryz.func128,Tryz.ntmps128
  go_upto_region 1 with fail
  rw [HW.out]
  clear HW
  refine wp_region_noPanic ?_
  refine wp_region_held_drew (S:=fun W=>Below W0.heap.size W0 W) (by kernel_rfl) (HDR.out) (fun hHeld=>?_)
  refine tk 0 (v:=?v11) ?y11 hHeld ?r11
  case y11=>intro w hSw;have ld:=HLD.out _ hSw;go_simp;try with_reducible rfl
  refine tk 1 (v:=?v12) ?y12 hHeld ?r12
  case y12=>intro w hSw;have ld:=HLD.out _ hSw;go_simp;try with_reducible rfl
  try simp only [Act.put,z_1,z_2,z_3,z_4,z_5,z_6,z_7]
  refine wpAnyH_ready (rs:=[2]) (by kernel_rfl) (by simp) ?_
  refine AllReadyH.cons rfl (fun K hK=>?_) AllReadyH.nil
  go_simp
  refine (HEP.out _).mono ?_
  rintro e' w1 ⟨rfl,hb1⟩
  dsimp only
  have hB1:Below W0.heap.size W0 w1:=HDR.out.trans (hb1.mono HDR.out.size)
  refine hK.out _ _ (hB1) (fun hHeld=>?_)
  clear hK K
  try simp only [Act.put,z_1,z_2,z_3,z_4,z_5,z_6,z_7]
  refine wpAnyH_ready (rs:=[3]) (by kernel_rfl) (by simp) ?_
  refine AllReadyH.cons rfl (fun K hK=>?_) AllReadyH.nil
  go_simp
  refine (HAC.out _ hB1).mono ?_
  rintro e' w2 ⟨a2,c2,rfl,hn2,hb2⟩
  dsimp only
  have hB2:Below W0.heap.size W0 w2:=hB1.trans (hb2.mono hB1.size)
  refine hK.out _ _ (hB2) (fun hHeld=>?_)
  clear hK K
  try simp only [Act.put,z_1,z_2,z_3,z_4,z_5,z_6,z_7]
  refine tk 4 (v:=?v13) ?y13 hHeld ?r13
  case y13=>intro w hSw;go_simp;try with_reducible rfl
  try simp only [Act.put,z_1,z_2,z_3,z_4,z_5,z_6,z_7]
  refine wpAnyH_done (by kernel_rfl) ?_ _
  refine NoPanic.normal ?_
  go_wp2
  go_ret
  exact ⟨ret_int (by rw [HCH.out];split<;>omega),HB.out.trans (hB2.mono (by omega))⟩
 ·go_enter Tryz.func128,Tryz.ntmps128
  go_upto_region 1 with fail
  rw [HW.out]
  clear HW
  refine wp_region_noPanic ?_
  refine wp_region_held_drew (S:=fun W=>Below W0.heap.size W0 W) (by kernel_rfl) (HDR.out) (fun hHeld=>?_)
  refine tk 0 (v:=?v501) ?y501 hHeld ?r501
  case y501=>intro w hSw;have ld:=HLD.out _ hSw;go_simp;try with_reducible rfl
  refine tk 1 (v:=?v502) ?y502 hHeld ?r502
  case y502=>intro w hSw;have ld:=HLD.out _ hSw;go_simp;try with_reducible rfl
  try simp only [Act.put,z_1,z_2,z_3,z_4,z_5,z_6,z_7]
  refine wpAnyH_ready (rs:=[2]) (by kernel_rfl) (by simp) ?_
  refine AllReadyH.cons rfl (fun K hK=>?_) AllReadyH.nil
  go_simp
  refine (HEP.out _).mono ?_
  rintro e' w1 ⟨rfl,hb1⟩
  dsimp only
  have hB1:Below W0.heap.size W0 w1:=HDR.out.trans (hb1.mono HDR.out.size)
  refine hK.out _ _ (hB1) (fun hHeld=>?_)
  clear hK K
  try simp only [Act.put,z_1,z_2,z_3,z_4,z_5,z_6,z_7]
  refine wpAnyH_ready (rs:=[3]) (by kernel_rfl) (by simp) ?_
  refine AllReadyH.cons rfl (fun K hK=>?_) AllReadyH.nil
  go_simp
  refine (HAC.out _ hB1).mono ?_
  rintro e' w2 ⟨a2,c2,rfl,hn2,hb2⟩
  dsimp only
  have hB2:Below W0.heap.size W0 w2:=hB1.trans (hb2.mono hB1.size)
  refine hK.out _ _ (hB2) (fun hHeld=>?_)
  clear hK K
  try simp only [Act.put,z_1,z_2,z_3,z_4,z_5,z_6,z_7]
  refine tk 4 (v:=?v503) ?y503 hHeld ?r503
  case y503=>intro w hSw;go_simp;try with_reducible rfl
  try simp only [Act.put,z_1,z_2,z_3,z_4,z_5,z_6,z_7]
  refine wpAnyH_done (by kernel_rfl) ?_ _
  refine NoPanic.normal ?_
  go_wp2
  go_ret
  exact ⟨ret_int (by rw [HCH.out];split<;>omega),HB.out.trans (hB2.mono (by omega))⟩
end
section
open Go.RowKit
set_option linter.unusedVariables false
set_option linter.unusedSimpArgs false
set_option maxRecDepth 20000
theorem CpdF.down {B C:Nat} {w:World} {X:VState} (h:CpdF B w X) (hC:C≤B):CpdF C w X:=⟨own_down h.o7 hC,own_down h.o9 hC,own_down h.o11 hC,own_down h.o12 hC,own_down h.o15 hC,own_down h.o16 hC,own_down h.o21 hC,h.d15,h.d12⟩
theorem BF.own {w w1 w2:World} {y:Nat} {C:Array Value} {X:VState} (hy:w.heap.size≤y) (h1:Up w w1) (h2:Up w1 w2) (r:w2.heap[y]?=some (.cells C 49)) (hc:CpdF w1.heap.size w2 X) (hz:C.size=(cel (sState X)).size):BF w y (w2.setRow y (cel (sState X))) X∧CpdF w1.heap.size (w2.setRow y (cel (sState X))) X:=by
 have hk:Kept y w2 (w2.setRow y (cel (sState X))):=(Kept.refl y w2).setRow _
 have hc2:CpdF w1.heap.size (w2.setRow y (cel (sState X))) X:=⟨own_keptB hc.o7 hk (own_ne hc.o7 r (by decide)),own_keptB hc.o9 hk (own_ne hc.o9 r (by decide)),own_keptB hc.o11 hk (own_ne hc.o11 r (by decide)),own_keptB hc.o12 hk (own_ne hc.o12 r (by decide)),own_keptB hc.o15 hk (own_ne hc.o15 r (by decide)),own_keptB hc.o16 hk (own_ne hc.o16 r (by decide)),own_keptB hc.o21 hk (own_ne hc.o21 r (by decide)),hc.d15,hc.d12⟩
 exact ⟨⟨below_row (upT h1 h2) hy _,setRow_at r,hc2.down h1.size⟩,hc2⟩
attribute [local go_sem ↓] lvState_eq svState_eq bdState_eq lvEth1_eq ixEth1_eq bsE_eq svE_eq eqoE_eq
end
section
open Go.RowKit
set_option linter.unusedVariables false
set_option linter.unusedSimpArgs false
set_option maxRecDepth 20000
theorem ranged {w:World} {g:Nat} {t:TypeId} {a b:List Value} {C:Array Value} (h:w.heap[g]?=some (.cells C t)) (l:List Value) (e:C=(a++(l++b)).toArray):w.rangeAt g a.length l:=by
 intro j v hj
 rw [row_cell h,e,List.getElem?_toArray,List.getElem?_append_right (by omega),Nat.add_sub_cancel_left,List.getElem?_append_left (List.getElem?_eq_some_iff.1 hj).1]
 exact hj
theorem lvSg_in {w:World} {g o:Nat} {s:Nat→Int} (h:w.rangeAt g o (bl s 96)):(lvSg ⟨g,o,none⟩).run Tryz.prog w=.ok (.agg (vs .u8 96 s)) w :=
 loadAt_var (run_loadAt_mid w g o 56 _ _ h Tryz.underlying56 rfl (by rw [List.length_map,List.length_range];kernel_rfl))
attribute [local go_sem ↓] lvState_eq lv24_eq sv24_eq lvSg_eq lvKy_eq bsK_eq lvHeader_eq ixValidator_eq lvValidator_eq
end
end Go.Proofs.YtdamhdnljnifcaaGreatDoor
