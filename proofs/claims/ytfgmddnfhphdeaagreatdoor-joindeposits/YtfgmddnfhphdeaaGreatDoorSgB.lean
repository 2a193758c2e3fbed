/- A part. -/
import Derived.Test.YtfgmddnfhphdeaaGreatDoorQH
import Derived.Test.YtfgmddnfhphdeaaGreatDoorPkB
import Derived.Test.YtfgmddnfhphdeaaGreatDoorQL
namespace Go.Proofs.YtfgmddnfhphdeaaGreatDoor
open Go.RowKit
set_option linter.unusedVariables false
set_option linter.unusedSimpArgs false
set_option maxRecDepth 20000
def lvVer (a:Addr):Sem Value:=loadVar 26 a
theorem lvVer_eq (a:Addr):loadVar 26 a=lvVer a:=rfl
theorem lvVer_mid {w:World} {b o:Nat} {c:Nat→Int} (h:∀ j,j < 4→w.cell? ⟨b,o+j,none⟩=some (.int .u8 (c j))):(lvVer ⟨b,o,none⟩).run Tryz.prog w=.ok (.agg (vs .u8 4 c)) w:=by
 have hr:w.rangeAt b o ((List.range 4).map fun i=>Value.int .u8 (c i)):=by
  intro j v hj
  have hlt:j < 4:=by
   have:=(List.getElem?_eq_some_iff.1 hj).1
   simpa using this
  rw [h j hlt]
  simp [hlt] at hj
  rw [hj]
 exact loadAt_var (run_loadAt_mid w b o 26 _ _ hr Tryz.underlying26 rfl (by rw [List.length_map,List.length_range];kernel_rfl))
def bdVer (ps:Array (Nat × Value)):Sem Value:=Instr.build 26 ps
theorem bdVer_eq (ps:Array (Nat × Value)):Instr.build 26 ps=bdVer ps:=rfl
theorem bdVer_0 (W:World):(bdVer #[]).run Tryz.prog W=.ok (.agg (vs .u8 4 fun _=>0)) W:=by kernel_rfl
def bdRo (ps:Array (Nat × Value)):Sem Value:=Instr.build 24 ps
theorem bdRo_eq (ps:Array (Nat × Value)):Instr.build 24 ps=bdRo ps:=rfl
theorem bdRo_0 (W:World):(bdRo #[]).run Tryz.prog W=.ok (.agg (vs .u8 32 fun _=>0)) W:=by kernel_rfl
theorem cS42 {w:World} {g:Nat} {x:VState} {t:TypeId} (h:w.heap[g]?=some (.cells (cel (sState x)) t)):w.cell? ⟨g,42,none⟩=some (.int .u64 x.f3.f2):=seg_nu h 5 x.f3.f2 (by kernel_rfl) 42 (by kernel_rfl)
theorem splitF3 (x:VState):sState x=(sState x).take 3++[.by 4 x.f3.f0]++(sState x).drop 4:=by kernel_rfl
theorem splitF4 (x:VState):sState x=(sState x).take 4++[.by 4 x.f3.f1]++(sState x).drop 5:=by kernel_rfl
theorem len3 (x:VState):slen ((sState x).take 3)=34:=by kernel_rfl
theorem len4 (x:VState):slen ((sState x).take 4)=38:=by kernel_rfl
theorem at3 {w:World} {g:Nat} {x:VState} {t:TypeId} (h:w.heap[g]?=some (.cells (cel (sState x)) t)) (p:Nat) (hp:p < 4):w.cell? ⟨g,34+p,none⟩=some (.int .u8 (x.f3.f0 p)):=by
 have:=byte_at ((sState x).take 3) ((sState x).drop 4) 4 x.f3.f0 (t:=t) (by rw [←splitF3];exact h) p hp
 rw [len3] at this
 exact this
theorem at4 {w:World} {g:Nat} {x:VState} {t:TypeId} (h:w.heap[g]?=some (.cells (cel (sState x)) t)) (p:Nat) (hp:p < 4):w.cell? ⟨g,38+p,none⟩=some (.int .u8 (x.f3.f1 p)):=by
 have:=byte_at ((sState x).take 4) ((sState x).drop 5) 4 x.f3.f1 (t:=t) (by rw [←splitF4];exact h) p hp
 rw [len4] at this
 exact this
attribute [local go_sem ↓] lvState_eq svState_eq bdState_eq sv24_eq lv24_eq sv8_eq ix22_eq lvVer_eq bdVer_eq bdRo_eq
set_option maxHeartbeats 4000000 in
theorem rdomain_any (k : Int) (v r : Nat → Int) (w : World) (hv : ∀ j, j < 4 → 0 ≤ v j ∧ v j < 256) (hr : ∀ j, j < 32 → 0 ≤ r j ∧ r j < 256) (hC : Tab w 1 64 KW) :
    Calls Tryz.prog 62 #[.int .i64 k,.agg (vs .u8 4 v),.agg (vs .u8 32 r)] w fun e' w'=>e'=.returned (.agg (vs .u8 32 (dmV k v r)))∧Below w.heap.size w w':=by
 obtain ⟨W0,hW0⟩:∃ W,((w.alloc (.cells (vs .u8 4 v) 26)).alloc (.cells (vs .u8 32 r) 24)).alloc (.cells (vs .u8 32 fun _=>0) 24)=W:=⟨_,rfl⟩
 have r0:W0.heap[w.heap.size]?=some (.cells (vs .u8 4 v) 26):=by rw [←hW0];exact (heap_old (by simp<;>omega)).trans ((heap_old (by simp)).trans (heap_new rfl))
 have r1:W0.heap[w.heap.size+1]?=some (.cells (vs .u8 32 r) 24):=by rw [←hW0];exact (heap_old (by simp)).trans (heap_new (by simp))
 have r2:W0.heap[w.heap.size+2]?=some (.cells (vs .u8 32 fun _=>0) 24):=by rw [←hW0];exact heap_new (by simp)
 have hB0:Below w.heap.size w W0:=by rw [←hW0];exact (((Below.refl _ _).alloc (Nat.le_refl _) _).alloc (by simp) _).alloc (by simp<;>omega) _
 have z2:w.heap.size+2 < W0.heap.size:=some_ltK r2
 have hC0:=hC.below hB0
 have zr:=zero_root
 have z8:=zero_8
 have kw:IntKind.u32.wrap k=k % 4294967296:=by rw [IntKind.wrap_u32]
 have kw2:IntKind.u64.wrap (k % 4294967296)=k % 4294967296:=by rw [IntKind.wrap_u64];omega
 have hby:=fun (W:World)=>rbytes_any (k % 4294967296) W (by omega) (by omega)
 have hpa:∀ W:World,Below W0.heap.size W0 W→Calls Tryz.prog 35 #[.slice (some ⟨w.heap.size,0,none⟩) 4 4] W fun e w'=>∃ a' cap',e=.returned (.slice a' 1 cap')∧Below W.heap.size W w'∧Rts w' a' 1 cap' (pk v 4):=fun W h=>rpack_any (some ⟨w.heap.size,0,none⟩) 4 4 v W (.inr (.inr ⟨w.heap.size,0,rfl,by omega,by omega,by have:=h.size;omega,fun j hj=>by rw [Nat.zero_add];exact row_int ((h.block _ (by omega)).trans r0) j hj⟩)) (by omega)
 have htw:∀ W:World,Below W0.heap.size W0 W→Calls Tryz.prog 38 #[.agg (vs .u8 32 (pk v 4)),.agg (vs .u8 32 r)] W fun e w'=>e=.returned (.agg (vs .u8 32 (tw (pk v 4) r)))∧Below W.heap.size W w':=fun W h=>rtwo_tw (pk v 4) r W (hC0.below h) (fun j _=>pk_in hv j) hr
 have hlr:∀ W:World,Below W0.heap.size W0 W→(lv24 ⟨w.heap.size+1,0,none⟩).run Tryz.prog W=.ok (.agg (vs .u8 32 r)) W:=fun W h=>lv24_run ((h.block _ (by omega)).trans r1)
 have hdm:∀ j,dmV k v r j=if j < 4 then nmB (k % 4294967296) j else tw (pk v 4) r (j - 4):=fun _=>rfl
 generalize dmV k v r=DM at hdm ⊢
 generalize tw (pk v 4) r=X at htw hdm
 generalize pk v 4=PV at hpa htw
 generalize k % 4294967296=K0 at kw kw2 hby hdm
 have v8:=fun W=>sv8_newv W (fun _=>0) (nmB K0)
 have HB:=hid hB0
 have HW:=hid hW0
 have HBY:=hid hby
 have HPA0:=hid hpa
 have HTW0:=hid htw
 have HLR0:=hid hlr
 have HDM:=hid hdm
 have HR2:=hid r2
 clear hB0 hW0 hby hpa htw hlr hdm hC hC0 r0 r1 r2 hv hr
 go_enter Tryz.func62,Tryz.ntmps62
 go_upto_region 1 with fail
 rw [HW.out]
 clear HW
 go_upto_region 2 with (go_at_call 61;refine (HBY.out _).mono ?_;rintro e' w1 ⟨rfl,hb1⟩)
 obtain ⟨W2,hW2⟩:∃ W,w1.alloc (.cells (vs .u8 8 (nmB K0)) 119)=W:=⟨_,rfl⟩
 rw [hW2]
 have rk:W2.heap[w1.heap.size]?=some (.cells (vs .u8 8 (nmB K0)) 119):=by rw [←hW2];exact heap_new rfl
 have hE2:Below W0.heap.size W0 W2:=by rw [←hW2];exact hb1.alloc hb1.size _
 have q1:w.heap.size+2 < w1.heap.size:=by have:=hb1.size;omega
 obtain ⟨y7,e7⟩:∃ y,w1.heap.size=y:=⟨_,rfl⟩
 rw [e7] at rk q1 ⊢
 have hpa:=fun (W:World) (h:Below W2.heap.size W2 W)=>HPA0.out W (hE2.trans (h.mono hE2.size))
 have htw:=fun (W:World) (h:Below W2.heap.size W2 W)=>HTW0.out W (hE2.trans (h.mono hE2.size))
 have hlr:=fun (W:World) (h:Below W2.heap.size W2 W)=>HLR0.out W (hE2.trans (h.mono hE2.size))
 have hBd:Below W2.heap.size W2 W2.drew:=(Below.refl _ _).drew
 have HPA:=hid hpa
 have HTW:=hid htw
 have HLR:=hid hlr
 have HRK:=hid rk
 have HE2:=hid hE2
 clear hpa htw hlr rk hE2 hW2 e7 hb1 zr z8 v8 kw kw2 HPA0 HTW0 HLR0 HBY
 go_cut [8] from 12 (fun u wx=>∃ y,u=.pointer (some ⟨y,0,none⟩)∧wx.heap[y]?=some (.cells (vs .u8 32 X) 24)∧Below W2.heap.size W2 wx)
 case first =>
  refine wp_region_noPanic ?_
  refine wp_region_held_drew (S:=fun W=>Below W2.heap.size W2 W) (by kernel_rfl) (hBd) (fun hHeld=>?_)
  refine tk 0 (v:=?v1) ?y1 hHeld ?r1
  case y1=>intro w hSw;go_simp;try with_reducible rfl
  refine tk 4 (v:=?v2) ?y2 hHeld ?r2
  case y2=>intro w hSw;have ld0:=HLR.out w hSw;go_simp;try with_reducible rfl
  try simp only [Act.put,z_1,z_2,z_3,z_4,z_5,z_6,z_7]
  refine wpAnyH_ready (rs:=[1,6]) (by kernel_rfl) (by simp) ?_
  refine AllReadyH.cons rfl (fun K hK=>?_) (AllReadyH.cons rfl (fun K hK=>?_) AllReadyH.nil)
  ·go_simp
   refine (HPA.out _ (hBd)).mono ?_
   rintro e' x1 ⟨a1,c1,rfl,hd1,hr1⟩
   dsimp only
   have hc1_0:Below W2.heap.size W2 x1:=(hBd).trans (hd1.mono (hBd).size)
   obtain ⟨b1,o1,hb1,hx0,hc1⟩:=hr1.at 0 (by omega)
   rw [rt32_0] at hc1
   have hx1:∀ W:World,(ix22 (.slice a1 1 c1) (.int .i64 0)).run Tryz.prog W=.ok (.pointer (some ⟨b1,o1,none⟩)) W:=hx0
   clear hx0
   have hz1:Below x1.heap.size x1 x1:=Below.refl _ _
   refine hK.out _ _ (hc1_0) (fun hHeld=>?_)
   clear hK K
   try simp only [Act.put,z_1,z_2,z_3,z_4,z_5,z_6,z_7]
   refine wpAnyH_ready (rs:=[2,6]) (by kernel_rfl) (by simp) ?_
   refine AllReadyH.cons rfl (fun K hK=>?_) (AllReadyH.cons rfl (fun K hK=>?_) AllReadyH.nil)
   ·have ld:=hx1 x1
    go_simp
    refine hK.out _ _ (hc1_0) (fun hHeld=>?_)
    clear hK K
    try simp only [Act.put,z_1,z_2,z_3,z_4,z_5,z_6,z_7]
    refine wpAnyH_ready (rs:=[3,6]) (by kernel_rfl) (by simp) ?_
    refine AllReadyH.cons rfl (fun K hK=>?_) (AllReadyH.cons rfl (fun K hK=>?_) AllReadyH.nil)
    ·have ld:(lv24 ⟨b1,o1,none⟩).run Tryz.prog x1=.ok (.agg (vs .u8 32 PV)) x1:=lv24_mid (fun j hj=>(below_cell (hz1) hb1).trans (hc1 j hj))
     go_simp
     refine hK.out _ _ (hc1_0) (fun hHeld=>?_)
     clear hK K
     try simp only [Act.put,z_1,z_2,z_3,z_4,z_5,z_6,z_7]
     refine wpAnyH_ready (rs:=[5,6]) (by kernel_rfl) (by simp) ?_
     refine AllReadyH.cons rfl (fun K hK=>?_) (AllReadyH.cons rfl (fun K hK=>?_) AllReadyH.nil)
     ·go_simp
      refine (HTW.out _ (hc1_0)).mono ?_
      rintro e' x4 ⟨rfl,hd4⟩
      dsimp only
      have hc4_0:Below W2.heap.size W2 x4:=(hc1_0).trans (hd4.mono (hc1_0).size)
      have hc4_1:Below x1.heap.size x1 x4:=(hz1).trans (hd4.mono (hz1).size)
      refine hK.out _ _ (hc4_0) (fun hHeld=>?_)
      clear hK K
      try simp only [Act.put,z_1,z_2,z_3,z_4,z_5,z_6,z_7]
      refine wpAnyH_ready (rs:=[6]) (by kernel_rfl) (by simp) ?_
      refine AllReadyH.cons rfl (fun K hK=>?_) AllReadyH.nil
      have zr:=zero_root
      go_simp
      have hc5_0:Below W2.heap.size W2 (x4.alloc (.cells (vs .u8 32 fun _=>0) 24)):=(hc4_0).alloc (hc4_0).size _
      have hc5_1:Below x1.heap.size x1 (x4.alloc (.cells (vs .u8 32 fun _=>0) 24)):=(hc4_1).alloc (hc4_1).size _
      have ry5:(x4.alloc (.cells (vs .u8 32 fun _=>0) 24)).heap[x4.heap.size]?=some (.cells (vs .u8 32 fun _=>0) 24):=heap_new (by simp)
      have hy5:W2.heap.size≤x4.heap.size:=(hc4_0).size
      refine hK.out _ _ (hc5_0) (fun hHeld=>?_)
      clear hK K
      try simp only [Act.put,z_1,z_2,z_3,z_4,z_5,z_6,z_7]
      refine wpAnyH_ready (rs:=[7]) (by kernel_rfl) (by simp) ?_
      refine AllReadyH.cons rfl (fun K hK=>?_) AllReadyH.nil
      have v3:=sv24_run ry5 X
      go_simp
      have hc6_0:Below W2.heap.size W2 _:=below_row (hc5_0) hy5 (vs .u8 32 X)
      refine hK.out _ _ (hc6_0) (fun hHeld=>?_)
      clear hK K
      try simp only [Act.put,z_1,z_2,z_3,z_4,z_5,z_6,z_7]
      refine wpAnyH_done (by kernel_rfl) ?_ _
      refine NoPanic.normal ?_
      go_wp2
      go_meet
      exact ⟨_,rfl,setRow_at ry5,hc6_0⟩
     ·have zr:=zero_root
      go_simp
      have hc7_0:Below W2.heap.size W2 (x1.alloc (.cells (vs .u8 32 fun _=>0) 24)):=(hc1_0).alloc (hc1_0).size _
      have hc7_1:Below x1.heap.size x1 (x1.alloc (.cells (vs .u8 32 fun _=>0) 24)):=(hz1).alloc (hz1).size _
      have ry7:(x1.alloc (.cells (vs .u8 32 fun _=>0) 24)).heap[x1.heap.size]?=some (.cells (vs .u8 32 fun _=>0) 24):=heap_new (by simp)
      have hy7:W2.heap.size≤x1.heap.size:=(hc1_0).size
      refine hK.out _ _ (hc7_0) (fun hHeld=>?_)
      clear hK K
      try simp only [Act.put,z_1,z_2,z_3,z_4,z_5,z_6,z_7]
      refine wpAnyH_ready (rs:=[5]) (by kernel_rfl) (by simp) ?_
      refine AllReadyH.cons rfl (fun K hK=>?_) AllReadyH.nil
      go_simp
      refine (HTW.out _ (hc7_0)).mono ?_
      rintro e' x8 ⟨rfl,hd8⟩
      dsimp only
      have hc8_0:Below W2.heap.size W2 x8:=(hc7_0).trans (hd8.mono (hc7_0).size)
      have hc8_1:Below x1.heap.size x1 x8:=(hc7_1).trans (hd8.mono (hc7_1).size)
      have ry8:=(hd8.block _ (some_ltK ry7)).trans ry7
      refine hK.out _ _ (hc8_0) (fun hHeld=>?_)
      clear hK K
      try simp only [Act.put,z_1,z_2,z_3,z_4,z_5,z_6,z_7]
      refine wpAnyH_ready (rs:=[7]) (by kernel_rfl) (by simp) ?_
      refine AllReadyH.cons rfl (fun K hK=>?_) AllReadyH.nil
      have v3:=sv24_run ry8 X
      go_simp
      have hc9_0:Below W2.heap.size W2 _:=below_row (hc8_0) hy7 (vs .u8 32 X)
      refine hK.out _ _ (hc9_0) (fun hHeld=>?_)
      clear hK K
      try simp only [Act.put,z_1,z_2,z_3,z_4,z_5,z_6,z_7]
      refine wpAnyH_done (by kernel_rfl) ?_ _
      refine NoPanic.normal ?_
      go_wp2
      go_meet
      exact ⟨_,rfl,setRow_at ry8,hc9_0⟩
    ·have zr:=zero_root
     go_simp
     have hc10_0:Below W2.heap.size W2 (x1.alloc (.cells (vs .u8 32 fun _=>0) 24)):=(hc1_0).alloc (hc1_0).size _
     have hc10_1:Below x1.heap.size x1 (x1.alloc (.cells (vs .u8 32 fun _=>0) 24)):=(hz1).alloc (hz1).size _
     have ry10:(x1.alloc (.cells (vs .u8 32 fun _=>0) 24)).heap[x1.heap.size]?=some (.cells (vs .u8 32 fun _=>0) 24):=heap_new (by simp)
     have hy10:W2.heap.size≤x1.heap.size:=(hc1_0).size
     refine hK.out _ _ (hc10_0) (fun hHeld=>?_)
     clear hK K
     try simp only [Act.put,z_1,z_2,z_3,z_4,z_5,z_6,z_7]
     refine wpAnyH_ready (rs:=[3]) (by kernel_rfl) (by simp) ?_
     refine AllReadyH.cons rfl (fun K hK=>?_) AllReadyH.nil
     have ld:(lv24 ⟨b1,o1,none⟩).run Tryz.prog (x1.alloc (.cells (vs .u8 32 fun _=>0) 24))=.ok (.agg (vs .u8 32 PV)) (x1.alloc (.cells (vs .u8 32 fun _=>0) 24)):=lv24_mid (fun j hj=>(below_cell (hc10_1) hb1).trans (hc1 j hj))
     go_simp
     refine hK.out _ _ (hc10_0) (fun hHeld=>?_)
     clear hK K
     try simp only [Act.put,z_1,z_2,z_3,z_4,z_5,z_6,z_7]
     refine wpAnyH_ready (rs:=[5]) (by kernel_rfl) (by simp) ?_
     refine AllReadyH.cons rfl (fun K hK=>?_) AllReadyH.nil
     go_simp
     refine (HTW.out _ (hc10_0)).mono ?_
     rintro e' x12 ⟨rfl,hd12⟩
     dsimp only
     have hc12_0:Below W2.heap.size W2 x12:=(hc10_0).trans (hd12.mono (hc10_0).size)
     have hc12_1:Below x1.heap.size x1 x12:=(hc10_1).trans (hd12.mono (hc10_1).size)
     have ry12:=(hd12.block _ (some_ltK ry10)).trans ry10
     refine hK.out _ _ (hc12_0) (fun hHeld=>?_)
     clear hK K
     try simp only [Act.put,z_1,z_2,z_3,z_4,z_5,z_6,z_7]
     refine wpAnyH_ready (rs:=[7]) (by kernel_rfl) (by simp) ?_
     refine AllReadyH.cons rfl (fun K hK=>?_) AllReadyH.nil
     have v3:=sv24_run ry12 X
     go_simp
     have hc13_0:Below W2.heap.size W2 _:=below_row (hc12_0) hy10 (vs .u8 32 X)
     refine hK.out _ _ (hc13_0) (fun hHeld=>?_)
     clear hK K
     try simp only [Act.put,z_1,z_2,z_3,z_4,z_5,z_6,z_7]
     refine wpAnyH_done (by kernel_rfl) ?_ _
     refine NoPanic.normal ?_
     go_wp2
     go_meet
     exact ⟨_,rfl,setRow_at ry12,hc13_0⟩
   ·have zr:=zero_root
    go_simp
    have hc14_0:Below W2.heap.size W2 (x1.alloc (.cells (vs .u8 32 fun _=>0) 24)):=(hc1_0).alloc (hc1_0).size _
    have hc14_1:Below x1.heap.size x1 (x1.alloc (.cells (vs .u8 32 fun _=>0) 24)):=(hz1).alloc (hz1).size _
    have ry14:(x1.alloc (.cells (vs .u8 32 fun _=>0) 24)).heap[x1.heap.size]?=some (.cells (vs .u8 32 fun _=>0) 24):=heap_new (by simp)
    have hy14:W2.heap.size≤x1.heap.size:=(hc1_0).size
    refine hK.out _ _ (hc14_0) (fun hHeld=>?_)
    clear hK K
    try simp only [Act.put,z_1,z_2,z_3,z_4,z_5,z_6,z_7]
    refine wpAnyH_ready (rs:=[2]) (by kernel_rfl) (by simp) ?_
    refine AllReadyH.cons rfl (fun K hK=>?_) AllReadyH.nil
    have ld:=hx1 (x1.alloc (.cells (vs .u8 32 fun _=>0) 24))
    go_simp
    refine hK.out _ _ (hc14_0) (fun hHeld=>?_)
    clear hK K
    try simp only [Act.put,z_1,z_2,z_3,z_4,z_5,z_6,z_7]
    refine wpAnyH_ready (rs:=[3]) (by kernel_rfl) (by simp) ?_
    refine AllReadyH.cons rfl (fun K hK=>?_) AllReadyH.nil
    have ld:(lv24 ⟨b1,o1,none⟩).run Tryz.prog (x1.alloc (.cells (vs .u8 32 fun _=>0) 24))=.ok (.agg (vs .u8 32 PV)) (x1.alloc (.cells (vs .u8 32 fun _=>0) 24)):=lv24_mid (fun j hj=>(below_cell (hc14_1) hb1).trans (hc1 j hj))
    go_simp
    refine hK.out _ _ (hc14_0) (fun hHeld=>?_)
    clear hK K
    try simp only [Act.put,z_1,z_2,z_3,z_4,z_5,z_6,z_7]
    refine wpAnyH_ready (rs:=[5]) (by kernel_rfl) (by simp) ?_
    refine AllReadyH.cons rfl (fun K hK=>?_) AllReadyH.nil
    go_simp
    refine (HTW.out _ (hc14_0)).mono ?_
    rintro e' x17 ⟨rfl,hd17⟩
    dsimp only
    have hc17_0:Below W2.heap.size W2 x17:=(hc14_0).trans (hd17.mono (hc14_0).size)
    have hc17_1:Below x1.heap.size x1 x17:=(hc14_1).trans (hd17.mono (hc14_1).size)
    have ry17:=(hd17.block _ (some_ltK ry14)).trans ry14
    refine hK.out _ _ (hc17_0) (fun hHeld=>?_)
    clear hK K
    try simp only [Act.put,z_1,z_2,z_3,z_4,z_5,z_6,z_7]
    refine wpAnyH_ready (rs:=[7]) (by kernel_rfl) (by simp) ?_
    refine AllReadyH.cons rfl (fun K hK=>?_) AllReadyH.nil
    have v3:=sv24_run ry17 X
    go_simp
    have hc18_0:Below W2.heap.size W2 _:=below_row (hc17_0) hy14 (vs .u8 32 X)
    refine hK.out _ _ (hc18_0) (fun hHeld=>?_)
    clear hK K
    try simp only [Act.put,z_1,z_2,z_3,z_4,z_5,z_6,z_7]
    refine wpAnyH_done (by kernel_rfl) ?_ _
    refine NoPanic.normal ?_
    go_wp2
    go_meet
    exact ⟨_,rfl,setRow_at ry17,hc18_0⟩
  ·have zr:=zero_root
   go_simp
   have hc19_0:Below W2.heap.size W2 (W2.drew.alloc (.cells (vs .u8 32 fun _=>0) 24)):=(hBd).alloc (hBd).size _
   have ry19:(W2.drew.alloc (.cells (vs .u8 32 fun _=>0) 24)).heap[W2.heap.size]?=some (.cells (vs .u8 32 fun _=>0) 24):=heap_new (by simp)
   have hy19:W2.heap.size≤W2.heap.size:=(hBd).size
   refine hK.out _ _ (hc19_0) (fun hHeld=>?_)
   clear hK K
   try simp only [Act.put,z_1,z_2,z_3,z_4,z_5,z_6,z_7]
   refine wpAnyH_ready (rs:=[1]) (by kernel_rfl) (by simp) ?_
   refine AllReadyH.cons rfl (fun K hK=>?_) AllReadyH.nil
   go_simp
   refine (HPA.out _ (hc19_0)).mono ?_
   rintro e' x20 ⟨a1,c1,rfl,hd20,hr1⟩
   dsimp only
   have hc20_0:Below W2.heap.size W2 x20:=(hc19_0).trans (hd20.mono (hc19_0).size)
   have ry20:=(hd20.block _ (some_ltK ry19)).trans ry19
   obtain ⟨b1,o1,hb1,hx0,hc1⟩:=hr1.at 0 (by omega)
   rw [rt32_0] at hc1
   have hx1:∀ W:World,(ix22 (.slice a1 1 c1) (.int .i64 0)).run Tryz.prog W=.ok (.pointer (some ⟨b1,o1,none⟩)) W:=hx0
   clear hx0
   have hz20:Below x20.heap.size x20 x20:=Below.refl _ _
   refine hK.out _ _ (hc20_0) (fun hHeld=>?_)
   clear hK K
   try simp only [Act.put,z_1,z_2,z_3,z_4,z_5,z_6,z_7]
   refine wpAnyH_ready (rs:=[2]) (by kernel_rfl) (by simp) ?_
   refine AllReadyH.cons rfl (fun K hK=>?_) AllReadyH.nil
   have ld:=hx1 x20
   go_simp
   refine hK.out _ _ (hc20_0) (fun hHeld=>?_)
   clear hK K
   try simp only [Act.put,z_1,z_2,z_3,z_4,z_5,z_6,z_7]
   refine wpAnyH_ready (rs:=[3]) (by kernel_rfl) (by simp) ?_
   refine AllReadyH.cons rfl (fun K hK=>?_) AllReadyH.nil
   have ld:(lv24 ⟨b1,o1,none⟩).run Tryz.prog x20=.ok (.agg (vs .u8 32 PV)) x20:=lv24_mid (fun j hj=>(below_cell (hz20) hb1).trans (hc1 j hj))
   go_simp
   refine hK.out _ _ (hc20_0) (fun hHeld=>?_)
   clear hK K
   try simp only [Act.put,z_1,z_2,z_3,z_4,z_5,z_6,z_7]
   refine wpAnyH_ready (rs:=[5]) (by kernel_rfl) (by simp) ?_
   refine AllReadyH.cons rfl (fun K hK=>?_) AllReadyH.nil
   go_simp
   refine (HTW.out _ (hc20_0)).mono ?_
   rintro e' x23 ⟨rfl,hd23⟩
   dsimp only
   have hc23_0:Below W2.heap.size W2 x23:=(hc20_0).trans (hd23.mono (hc20_0).size)
   have hc23_1:Below x20.heap.size x20 x23:=(hz20).trans (hd23.mono (hz20).size)
   have ry23:=(hd23.block _ (some_ltK ry20)).trans ry20
   refine hK.out _ _ (hc23_0) (fun hHeld=>?_)
   clear hK K
   try simp only [Act.put,z_1,z_2,z_3,z_4,z_5,z_6,z_7]
   refine wpAnyH_ready (rs:=[7]) (by kernel_rfl) (by simp) ?_
   refine AllReadyH.cons rfl (fun K hK=>?_) AllReadyH.nil
   have v3:=sv24_run ry23 X
   go_simp
   have hc24_0:Below W2.heap.size W2 _:=below_row (hc23_0) hy19 (vs .u8 32 X)
   refine hK.out _ _ (hc24_0) (fun hHeld=>?_)
   clear hK K
   try simp only [Act.put,z_1,z_2,z_3,z_4,z_5,z_6,z_7]
   refine wpAnyH_done (by kernel_rfl) ?_ _
   refine NoPanic.normal ?_
   go_wp2
   go_meet
   exact ⟨_,rfl,setRow_at ry23,hc24_0⟩
 case rest =>
  clear HPA HTW HLR hBd
  obtain ⟨y8,rfl,r8,hc⟩:=hcut
  have rk:=(hc.block _ (some_ltK HRK.out)).trans HRK.out
  have hB8:=HE2.out.trans (hc.mono HE2.out.size)
  have r2:=(hB8.block _ z2).trans HR2.out
  obtain ⟨W3,hW3⟩:∃ W,wc.alloc (.cells (vs .u8 32 fun _=>0) 24)=W:=⟨_,rfl⟩
  have r9:W3.heap[wc.heap.size]?=some (.cells (vs .u8 32 fun _=>0) 24):=by rw [←hW3];exact heap_new rfl
  have hB9:Below wc.heap.size wc W3:=by rw [←hW3];exact (Below.refl _ _).alloc (Nat.le_refl _) _
  have q2:=some_ltK r2
  have q7:=some_ltK rk
  have q8:=some_ltK r8
  have H2:=hid r2
  have H7:=hid rk
  have H8:=hid r8
  have H9:=hid r9
  have HB9:=hid hB9
  have HB8:=hid hB8
  have HW3:=hid hW3
  have zr:=zero_root
  clear r2 rk r8 r9 hB9 hB8 hW3 hc HE2 HRK HR2
  go_upto_region 4 with fail
  rw [HW3.out]
  obtain ⟨y9,e9⟩:∃ y,wc.heap.size=y:=⟨_,rfl⟩
  have E9:=hid e9
  rw [e9] at H9 q2 q7 q8 ⊢
  clear HW3 zr e9
  go_wp2
  go_loopg [10] 5 (fun n c wr=>∃ i:Nat,c=.int .i64 i∧i≤4∧4 - i < n∧wr.heap[y9]?=some (.cells (vs .u8 32 fun j=>if j < i then nmB K0 j else 0) 24)∧Below wc.heap.size wc wr)
  case atStart=>exact ⟨0,rfl,by omega,by omega,H9.out,HB9.out⟩
  case round =>
   clear H9 HB9
   obtain ⟨i,rfl,hi,hk,hr,hw⟩:=hrel
   by_cases h4:i < 4
   ·have h4z:(i:Int) < 4:=by omega
    have h8z:(i:Int) < 8:=by omega
    have h32z:(i:Int) < 32:=by omega
    have c5:wr.cell? ⟨y7,i,none⟩=some (.int .u8 (nmB K0 i)):=row_int ((hw.block _ (by have:=E9.out;omega)).trans H7.out) i (by omega)
    have c7:=row_int hr i (by omega)
    have f7:=row_frozen hr i
    have HRR:=hid hr
    have HWW:=hid hw
    clear hr hw
    go_wp2
    go_roundg (4 - i)
    case measure=>omega
    case rel =>
     refine ⟨i+1,by simp,by omega,by omega,?_,HWW.out.setCell (by show wc.heap.size≤y9;have:=E9.out;omega) _⟩
     rw [row_set HRR.out i,vs_set]
     refine congrArg (fun c=>some (Obj.cells c 24)) (vs_congr fun j hj=>?_)
     by_cases hj2:j=i
     ·subst hj2
      rw [if_pos rfl,if_pos (by omega)]
     ·rw [if_neg hj2]
      by_cases hj3:j < i
      ·rw [if_pos hj3,if_pos (by omega)]
      ·rw [if_neg hj3,if_neg (by omega)]
   ·obtain rfl:i=4:=by omega
    have HRR:=hid hr
    have HWW:=hid hw
    clear hr hw
    go_wp2
    go_loopg [11] 29 (fun n c wr=>∃ i:Nat,c=.int .i64 i∧i≤28∧28 - i < n∧wr.heap[y9]?=some (.cells (vs .u8 32 fun j=>if j < 4 then nmB K0 j else if j < 4+i then X (j - 4) else 0) 24)∧Below wc.heap.size wc wr)
    case atStart =>
     refine ⟨0,rfl,by omega,by omega,?_,HWW.out⟩
     rw [HRR.out]
     refine congrArg (fun c=>some (Obj.cells c 24)) (vs_congr fun j hj=>?_)
     by_cases h:j < 4
     ·rw [if_pos h,if_pos h]
     ·rw [if_neg h,if_neg h,if_neg (by omega)]
    case round =>
     clear HRR HWW
     obtain ⟨i,rfl,hi,hk,hr,hw⟩:=hrel
     by_cases h28:i < 28
     ·have h28z:(i:Int) < 28:=by omega
      have h32z:(i:Int) < 32:=by omega
      have h32y:4+(i:Int) < 32:=by omega
      have hi0:(0:Int)≤4+(i:Int):=by omega
      have aw:IntKind.i64.wrap (4+(i:Int))=4+(i:Int):=by rw [IntKind.wrap_i64];omega
      have tn:(4+(i:Int)).toNat=4+i:=by omega
      have c5:wr.cell? ⟨y8,i,none⟩=some (.int .u8 (X i)):=row_int ((hw.block _ (by have:=E9.out;omega)).trans H8.out) i (by omega)
      have c7:=row_int hr (4+i) (by omega)
      have f7:=row_frozen hr (4+i)
      have HRR:=hid hr
      have HWW:=hid hw
      clear hr hw
      go_wp2
      go_roundg (28 - i)
      case measure=>omega
      case rel =>
       refine ⟨i+1,by simp,by omega,by omega,?_,HWW.out.setCell (by show wc.heap.size≤y9;have:=E9.out;omega) _⟩
       rw [row_set HRR.out (4+i),vs_set]
       refine congrArg (fun c=>some (Obj.cells c 24)) (vs_congr fun j hj=>?_)
       by_cases hj2:j=4+i
       ·subst hj2
        rw [if_pos rfl,if_neg (by omega),if_pos (by omega),show 4+i - 4=i by omega]
       ·rw [if_neg hj2]
        by_cases hj4:j < 4
        ·rw [if_pos hj4,if_pos hj4]
        ·rw [if_neg hj4,if_neg hj4]
         by_cases hj3:j < 4+i
         ·rw [if_pos hj3,if_pos (by omega)]
         ·rw [if_neg hj3,if_neg (by omega)]
     ·obtain rfl:i=28:=by omega
      have hr':wr.heap[y9]?=some (.cells (vs .u8 32 DM) 24):=hr.trans (congrArg (fun c=>some (Obj.cells c 24)) (vs_congr fun j hj=>by
       rw [HDM.out]
       by_cases h:j < 4
       ·rw [if_pos h,if_pos h]
       ·rw [if_neg h,if_neg h,if_pos (by omega)]))
      have l9:=lv24_run hr'
      have r2:=(hw.block _ (by have:=E9.out;omega)).trans H2.out
      have s2:=sv24_run r2 DM
      have hE:Below w.heap.size w wr:=HB.out.trans ((HB8.out.trans (hw.mono HB8.out.size)).mono HB.out.size)
      have HE:=hid hE
      have HR:=hid r2
      clear hr hr' hw hE r2
      go_wp2
      exact ret24 6 (w.heap.size+2) DM 24 rfl rfl rfl (setRow_at HR.out) ⟨rfl,below_row HE.out (by omega) _⟩
set_option maxHeartbeats 1000000 in
theorem rDeposits_any (w : World) (hC : Tab w 1 64 KW) :
    Calls Tryz.prog 26 #[] w fun e' w'=>e'=.returned (.agg (vs .u8 32 depV))∧Below w.heap.size w w':=by
 obtain ⟨W0,hW0⟩:∃ W,w.alloc (.cells (vs .u8 32 fun _=>0) 24)=W:=⟨_,rfl⟩
 have r1:W0.heap[w.heap.size]?=some (.cells (vs .u8 32 fun _=>0) 24):=by rw [←hW0];exact heap_new rfl
 have hB0:Below w.heap.size w W0:=by rw [←hW0];exact (Below.refl _ _).alloc (Nat.le_refl _) _
 have z1:w.heap.size < W0.heap.size:=some_ltK r1
 have hd:Calls Tryz.prog 62 #[.int .i64 3,.agg (vs .u8 4 fun _=>0),.agg (vs .u8 32 fun _=>0)] W0 fun e' w'=>e'=.returned (.agg (vs .u8 32 depV))∧Below W0.heap.size W0 w':=rdomain_any 3 (fun _=>0) (fun _=>0) W0 (fun _ _=>by omega) (fun _ _=>by omega) (hC.below hB0)
 have zr:=zero_root
 have b1:=bdVer_0
 have b2:=bdRo_0
 generalize depV=DM at hd ⊢
 generalize vs .u8 4 (fun _=>0)=V0 at hd b1
 have HB:=hid hB0
 have HW:=hid hW0
 have HR:=hid r1
 have HD:=hid hd
 clear hd hB0 hW0 r1 hC
 go_enter Tryz.func26,Tryz.ntmps26
 go_upto_region 1 with fail
 rw [HW.out]
 clear HW zr
 go_wp2_with (go_at_call 62;refine HD.out.mono ?_;rintro e' w1 ⟨rfl,hb1⟩;have s1:=sv24_run ((hb1.block _ z1).trans HR.out) DM)
 exact ret24 0 w.heap.size DM 24 rfl rfl rfl (setRow_at ((hb1.block _ z1).trans HR.out)) ⟨rfl,below_row (HB.out.trans (hb1.mono HB.out.size)) (Nat.le_refl _) _⟩
set_option maxHeartbeats 1000000 in
theorem rRoot_any (a b : Nat → Int) (w : World) (ha : ∀ j, j < 32 → 0 ≤ a j ∧ a j < 256) (hb : ∀ j, j < 32 → 0 ≤ b j ∧ b j < 256) (hC : Tab w 1 64 KW) :
    Calls Tryz.prog 24 #[.agg (vs .u8 32 a),.agg (vs .u8 32 b)] w fun e' w'=>e'=.returned (.agg (vs .u8 32 (tw a b)))∧Below w.heap.size w w':=by
 obtain ⟨W0,hW0⟩:∃ W,((w.alloc (.cells (vs .u8 32 a) 24)).alloc (.cells (vs .u8 32 b) 24)).alloc (.cells (vs .u8 32 fun _=>0) 24)=W:=⟨_,rfl⟩
 have r0:W0.heap[w.heap.size]?=some (.cells (vs .u8 32 a) 24):=by rw [←hW0];exact (heap_old (by simp<;>omega)).trans ((heap_old (by simp)).trans (heap_new rfl))
 have r1:W0.heap[w.heap.size+1]?=some (.cells (vs .u8 32 b) 24):=by rw [←hW0];exact (heap_old (by simp)).trans (heap_new (by simp))
 have r2:W0.heap[w.heap.size+2]?=some (.cells (vs .u8 32 fun _=>0) 24):=by rw [←hW0];exact heap_new (by simp)
 have hB0:Below w.heap.size w W0:=by rw [←hW0];exact (((Below.refl _ _).alloc (Nat.le_refl _) _).alloc (by simp) _).alloc (by simp<;>omega) _
 have z2:w.heap.size+2 < W0.heap.size:=some_ltK r2
 have la:=lv24_run r0
 have lb:=lv24_run r1
 have htw:=rtwo_tw a b W0 (hC.below hB0) ha hb
 have zr:=zero_root
 generalize tw a b=X at htw ⊢
 have HB:=hid hB0
 have HW:=hid hW0
 have HR:=hid r2
 have HD:=hid htw
 clear htw hB0 hW0 r0 r1 r2 hC ha hb
 go_enter Tryz.func24,Tryz.ntmps24
 go_upto_region 1 with fail
 rw [HW.out]
 clear HW zr
 go_wp2_with (go_at_call 38;refine HD.out.mono ?_;rintro e' w1 ⟨rfl,hb1⟩;have s1:=sv24_run ((hb1.block _ z2).trans HR.out) X)
 exact ret24 4 (w.heap.size+2) X 24 rfl rfl rfl (setRow_at ((hb1.block _ z2).trans HR.out)) ⟨rfl,below_row (HB.out.trans (hb1.mono HB.out.size)) (by omega) _⟩
end Go.Proofs.YtfgmddnfhphdeaaGreatDoor
