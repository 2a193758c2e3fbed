/- A part. -/
import Derived.Test.YtfgmddnfhphdeaaGreatDoorQO
import Derived.Test.YtfgmddnfhphdeaaGreatDoorQN
import Derived.BigRegion
namespace Go.Proofs.YtfgmddnfhphdeaaGreatDoor
open Go.RowKit
set_option linter.unusedVariables false
set_option linter.unusedSimpArgs false
section
open Go.RowKit
set_option linter.unusedVariables false
set_option linter.unusedSimpArgs false
set_option maxRecDepth 20000
def bsVa (n:Nat) (ps:Array (Nat × Value)):Sem Value:=Instr.buildSlice 36 n ps
theorem bsVa_eq (n:Nat) (ps:Array (Nat × Value)):Instr.buildSlice 36 n ps=bsVa n ps:=rfl
theorem bsVa_1 (W:World) (v:VValidator):(bsVa 1 #[(0,.agg (cel (sValidator v)))]).run Tryz.prog W=.ok (.slice (some ⟨W.heap.size,0,none⟩) 1 1) (W.alloc (.cells (cel (sValidator v)) 74)):=by kernel_rfl
def bsNu (n:Nat) (ps:Array (Nat × Value)):Sem Value:=Instr.buildSlice 37 n ps
theorem bsNu_eq (n:Nat) (ps:Array (Nat × Value)):Instr.buildSlice 37 n ps=bsNu n ps:=rfl
theorem bsNu_1 (W:World) (v:Int):(bsNu 1 #[(0,.int .u64 v)]).run Tryz.prog W=.ok (.slice (some ⟨W.heap.size,0,none⟩) 1 1) (W.alloc (.cells #[.int .u64 v] 22)):=by kernel_rfl
def bsBy (n:Nat) (ps:Array (Nat × Value)):Sem Value:=Instr.buildSlice 39 n ps
theorem bsBy_eq (n:Nat) (ps:Array (Nat × Value)):Instr.buildSlice 39 n ps=bsBy n ps:=rfl
theorem bsBy_1 (W:World) (v:Int):(bsBy 1 #[(0,.int .u8 v)]).run Tryz.prog W=.ok (.slice (some ⟨W.heap.size,0,none⟩) 1 1) (W.alloc (.cells #[.int .u8 v] 5)):=by kernel_rfl
theorem drew_row {V:World} {g:Nat} {o:Obj} (h:V.heap[g]?=some o):V.drew.heap[g]?=some o:=upR ((Below.refl _ _).drew) h
def enE (X:VState) (d:VDepositData):Int:=if 65536≤X.f11.n then 6 else if 144115188075855872 < d.f2 then 2 else 0
def Lim (X:VState):Prop:=X.f11.n≤65536∧X.f12.n≤65536∧X.f15.n≤65536∧X.f16.n≤65536∧X.f21.n≤65536
attribute [local go_sem ↓] lvDd_eq bsVa_eq bsNu_eq bsBy_eq
set_option maxHeartbeats 16000000 in
theorem enroll_any (X : VState) (d : VDepositData) (y : Nat) (w V : World) (hb : BK w y V X) (hl : Lim X) (hd : OkDepositData d) :
    Calls Tryz.prog 57 #[.pointer (some ⟨y,0,none⟩),.agg (cel (sDepositData d))] V fun e' V'=>∃ X',e'=.returned (.int .i64 (enE X d))∧SimF (if enE X d=0 then enS X d else X) X'∧BK w y V' X'∧KpL y V V':=by
 obtain ⟨V1,hV1⟩:∃ W,V.alloc (.cells (cel (sDepositData d)) 58)=W:=⟨_,rfl⟩
 have r0:V1.heap[V.heap.size]?=some (.cells (cel (sDepositData d)) 58):=by rw [←hV1];exact heap_new rfl
 have hU1:Up V V1:=by rw [←hV1];exact (Below.refl _ _).alloc (Nat.le_refl _) _
 have hb1:=hb.below hU1
 have hne:V.heap.size≠y:=fun e=>by
  have:=some_ltK hb.row
  omega
 obtain ⟨w5,ew5⟩:∃ k,V.heap.size=k:=⟨_,rfl⟩
 rw [ew5] at r0 hne
 have l11:=cS11 hb1.row
 have c2:=cD2 r0
 have HBK:=hid hb1
 have HW:=hid hV1
 have HKP:=hid (KpL.of (y:=y) hU1)
 have HNE:=hid hne
 have HDD0:=hid r0
 have HEW:=hid ew5
 by_cases h1:65536≤X.f11.n
 ·have eE:enE X d=6:=if_pos h1
  rw [eE,if_neg (by omega)]
  have h1':(65536:Int)≤(X.f11.n:Int):=by omega
  clear hb hl hV1 hU1 hb1 hd r0 eE h1
  generalize X.f11.a=A at *
  generalize X.f11.n=n at *
  generalize X.f11.c=C at *
  go_enter Tryz.func57,Tryz.ntmps57
  go_upto_region 1 with fail
  rw [HW.out]
  go_wp2
  go_ret
  first | exact ⟨X,rfl,.refl _,HBK.out,HKP.out⟩ | exact ⟨rfl,X,.refl _,HBK.out,HKP.out⟩
 ·have h1':¬ (65536:Int)≤(X.f11.n:Int):=by omega
  by_cases h2:144115188075855872 < d.f2
  ·have eE:enE X d=2:=by unfold enE;rw [if_neg h1,if_pos h2]
   rw [eE,if_neg (by omega)]
   clear hb hl hV1 hU1 hb1 hd r0 eE h1
   generalize X.f11.a=A at *
   generalize X.f11.n=n at *
   generalize X.f11.c=C at *
   generalize d.f2=m at *
   go_enter Tryz.func57,Tryz.ntmps57
   go_upto_region 1 with fail
   rw [HW.out]
   go_wp2
   go_ret
   first | exact ⟨X,rfl,.refl _,HBK.out,HKP.out⟩ | exact ⟨rfl,X,.refl _,HBK.out,HKP.out⟩
  ·have eE:enE X d=0:=by unfold enE;rw [if_neg h1,if_neg h2]
   rw [eE,if_pos rfl]
   have HNC:=hid (fun W:World=>newc_any d W hd)
   have HL11:=hid hl.1
   have HL12:=hid hl.2.1
   have HL15:=hid hl.2.2.1
   have HL16:=hid hl.2.2.2.1
   have HL21:=hid hl.2.2.2.2
   have hsim:=fun a1 a2 a3 a4 a5 c1 c2 c3 c4 c5=>en_sim (SimF.refl X) d a1 a2 a3 a4 a5 c1 c2 c3 c4 c5
   have HSM:=hid hsim
   obtain ⟨NV,eNV⟩:∃ v,nvV d=v:=⟨_,rfl⟩
   rw [eNV] at HNC
   simp only [eNV] at HSM
   have HSM0:=HSM
   clear hb hl hV1 hU1 hb1 hd eE h1 hsim eNV hne HSM
   go_enter Tryz.func57,Tryz.ntmps57
   go_upto_region 1 with fail
   rw [HW.out]
   clear HW HEW ew5
   go_upto_region 5 with fail
   clear h1' h2 l11 c2
   have HDV1:=HDD0
   have HDD:=hid (drew_row HDD0.out)
   go_cut [] from 14 (fun wx=>∃ a1 c1,BK w y wx (mr11 X a1 c1 NV)∧KpL y V1 wx)
   case first =>
    refine wp_region_noPanic ?_
    refine wp_region_held_drew (S:=fun W=>W.heap[w5]?=some (.cells (cel (sDepositData d)) 58)) (by kernel_rfl) (HDD.out) (fun hHeld=>?_)
    generalize eWD:V1.drew=wd at hHeld ⊢
    have HBD:=hid (show BK w y wd X by rw [←eWD];exact HBK.out.drew)
    have HUD:=hid (show Up V1 wd by rw [←eWD];exact (Below.refl _ _).drew)
    clear eWD
    refine tk 0 (v:=?v211) ?y211 hHeld ?r211
    case y211=>intro w hSw;go_simp;try with_reducible rfl
    refine tk 1 (v:=?v212) ?y212 hHeld ?r212
    case y212=>intro w hSw;go_simp;try with_reducible rfl
    refine tk 2 (v:=?v213) ?y213 hHeld ?r213
    case y213=>intro w hSw;go_simp;try with_reducible rfl
    refine tk 3 (v:=?v214) ?y214 hHeld ?r214
    case y214=>intro w hSw;go_simp;try with_reducible rfl
    refine tk 5 (v:=?v215) ?y215 hHeld ?r215
    case y215=>intro w hSw;have ld0:=lvDd_run hSw;go_simp;try with_reducible rfl
    try simp only [Act.put,z_1,z_2,z_3,z_4,z_5,z_6,z_7]
    refine rd2 4 6 (fun K hK=>?_) (fun K hK=>?_)
    ·have ld4:=cS11 HBD.out.row
     go_simp
     clear ld4
     refine hK.out _ _ (hHeld) (fun hHeld=>?_)
     clear hK K
     try simp only [Act.put,z_1,z_2,z_3,z_4,z_5,z_6,z_7]
     refine rd1 6 (fun K hK=>?_)
     go_simp
     refine (HNC.out _).mono ?_
     rintro e' x6 ⟨rfl,hd6⟩
     dsimp only
     have hb6:=HBD.out.below hd6
     refine hK.out _ _ (upR hd6 hHeld) (fun hHeld=>?_)
     clear hK K
     try simp only [Act.put,z_1,z_2,z_3,z_4,z_5,z_6,z_7]
     refine rd1 7 (fun K hK=>?_)
     have zr:=bsVa_1 x6 NV
     go_simp
     obtain ⟨x7,y7,hx,ey,r7,hd7,_⟩:=upN2 hd6 (.cells (cel (sValidator NV)) 74)
     rw [hx,ey]
     clear hx ey zr
     have hb7:=hb6.below hd7
     refine hK.out _ _ (upR hd7 hHeld) (fun hHeld=>?_)
     clear hK K
     try simp only [Act.put,z_1,z_2,z_3,z_4,z_5,z_6,z_7]
     have HD7:=hid hHeld
     refine rd1 8 (fun K hK=>?_)
     obtain ⟨a8,c8,x8,hr8,hb8,⟨u8,hc8⟩,hf8,hk8,hk9⟩:=hb7.at11 HL11.out NV r7 36
     refine wp_app_is 36 _ _ rfl _ _ _ _ rfl rfl hr8 ?_
     refine hK.out _ _ (hk8 _ _ _ hHeld (by decide) (by decide) (by decide) HNE.out) (fun hHeld=>?_)
     clear hK K
     try simp only [Act.put,z_1,z_2,z_3,z_4,z_5,z_6,z_7]
     refine tk 9 (v:=?v216) ?y216 hHeld ?r216
     case y216=>intro w hSw;go_simp;try with_reducible rfl
     refine tk 10 (v:=?v217) ?y217 hHeld ?r217
     case y217=>intro w hSw;go_simp;try with_reducible rfl
     try simp only [Act.put,z_1,z_2,z_3,z_4,z_5,z_6,z_7]
     refine rd1 11 (fun K hK=>?_)
     go_simp
     refine hK.out _ _ (hk9 _ _ _ HD7.out (by decide) (by decide) (by decide) HNE.out) (fun hHeld=>?_)
     clear hK K
     try simp only [Act.put,z_1,z_2,z_3,z_4,z_5,z_6,z_7]
     refine wpAnyH_done (by kernel_rfl) ?_ _
     refine NoPanic.normal ?_
     go_wp2
     go_meet
     exact ⟨_,_,hb8,(KpL.of (upT HUD.out (upT hd6 hd7))).trans hk9⟩
    ·go_simp
     refine (HNC.out _).mono ?_
     rintro e' x6 ⟨rfl,hd6⟩
     dsimp only
     have hb6:=HBD.out.below hd6
     refine hK.out _ _ (upR hd6 hHeld) (fun hHeld=>?_)
     clear hK K
     try simp only [Act.put,z_1,z_2,z_3,z_4,z_5,z_6,z_7]
     refine rd2 4 7 (fun K hK=>?_) (fun K hK=>?_)
     ·have ld4:=cS11 hb6.row
      go_simp
      clear ld4
      refine hK.out _ _ (hHeld) (fun hHeld=>?_)
      clear hK K
      try simp only [Act.put,z_1,z_2,z_3,z_4,z_5,z_6,z_7]
      refine rd1 7 (fun K hK=>?_)
      have zr:=bsVa_1 x6 NV
      go_simp
      obtain ⟨x7,y7,hx,ey,r7,hd7,_⟩:=upN2 hd6 (.cells (cel (sValidator NV)) 74)
      rw [hx,ey]
      clear hx ey zr
      have hb7:=hb6.below hd7
      refine hK.out _ _ (upR hd7 hHeld) (fun hHeld=>?_)
      clear hK K
      try simp only [Act.put,z_1,z_2,z_3,z_4,z_5,z_6,z_7]
      have HD7:=hid hHeld
      refine rd1 8 (fun K hK=>?_)
      obtain ⟨a8,c8,x8,hr8,hb8,⟨u8,hc8⟩,hf8,hk8,hk9⟩:=hb7.at11 HL11.out NV r7 36
      refine wp_app_is 36 _ _ rfl _ _ _ _ rfl rfl hr8 ?_
      refine hK.out _ _ (hk8 _ _ _ hHeld (by decide) (by decide) (by decide) HNE.out) (fun hHeld=>?_)
      clear hK K
      try simp only [Act.put,z_1,z_2,z_3,z_4,z_5,z_6,z_7]
      refine tk 9 (v:=?v218) ?y218 hHeld ?r218
      case y218=>intro w hSw;go_simp;try with_reducible rfl
      refine tk 10 (v:=?v219) ?y219 hHeld ?r219
      case y219=>intro w hSw;go_simp;try with_reducible rfl
      try simp only [Act.put,z_1,z_2,z_3,z_4,z_5,z_6,z_7]
      refine rd1 11 (fun K hK=>?_)
      go_simp
      refine hK.out _ _ (hk9 _ _ _ HD7.out (by decide) (by decide) (by decide) HNE.out) (fun hHeld=>?_)
      clear hK K
      try simp only [Act.put,z_1,z_2,z_3,z_4,z_5,z_6,z_7]
      refine wpAnyH_done (by kernel_rfl) ?_ _
      refine NoPanic.normal ?_
      go_wp2
      go_meet
      exact ⟨_,_,hb8,(KpL.of (upT HUD.out (upT hd6 hd7))).trans hk9⟩
     ·have zr:=bsVa_1 x6 NV
      go_simp
      obtain ⟨x7,y7,hx,ey,r7,hd7,_⟩:=upN2 hd6 (.cells (cel (sValidator NV)) 74)
      rw [hx,ey]
      clear hx ey zr
      have hb7:=hb6.below hd7
      refine hK.out _ _ (upR hd7 hHeld) (fun hHeld=>?_)
      clear hK K
      try simp only [Act.put,z_1,z_2,z_3,z_4,z_5,z_6,z_7]
      refine rd1 4 (fun K hK=>?_)
      have ld4:=cS11 hb7.row
      go_simp
      clear ld4
      refine hK.out _ _ (hHeld) (fun hHeld=>?_)
      clear hK K
      try simp only [Act.put,z_1,z_2,z_3,z_4,z_5,z_6,z_7]
      have HD7:=hid hHeld
      refine rd1 8 (fun K hK=>?_)
      obtain ⟨a8,c8,x8,hr8,hb8,⟨u8,hc8⟩,hf8,hk8,hk9⟩:=hb7.at11 HL11.out NV r7 36
      refine wp_app_is 36 _ _ rfl _ _ _ _ rfl rfl hr8 ?_
      refine hK.out _ _ (hk8 _ _ _ hHeld (by decide) (by decide) (by decide) HNE.out) (fun hHeld=>?_)
      clear hK K
      try simp only [Act.put,z_1,z_2,z_3,z_4,z_5,z_6,z_7]
      refine tk 9 (v:=?v220) ?y220 hHeld ?r220
      case y220=>intro w hSw;go_simp;try with_reducible rfl
      refine tk 10 (v:=?v221) ?y221 hHeld ?r221
      case y221=>intro w hSw;go_simp;try with_reducible rfl
      try simp only [Act.put,z_1,z_2,z_3,z_4,z_5,z_6,z_7]
      refine rd1 11 (fun K hK=>?_)
      go_simp
      refine hK.out _ _ (hk9 _ _ _ HD7.out (by decide) (by decide) (by decide) HNE.out) (fun hHeld=>?_)
      clear hK K
      try simp only [Act.put,z_1,z_2,z_3,z_4,z_5,z_6,z_7]
      refine wpAnyH_done (by kernel_rfl) ?_ _
      refine NoPanic.normal ?_
      go_wp2
      go_meet
      exact ⟨_,_,hb8,(KpL.of (upT HUD.out (upT hd6 hd7))).trans hk9⟩
   case rest =>
    obtain ⟨a1,c1,hb2,hk2⟩:=hcut
    obtain ⟨V2,rfl⟩:∃ V,V=wc:=⟨wc,rfl⟩
    obtain ⟨X1,eX1⟩:∃ Z,mr11 X a1 c1 NV=Z:=⟨_,rfl⟩
    rw [eX1] at hb2
    replace HL12:=hid (show X1.f12.n≤65536 by rw [←eX1];exact HL12.out)
    replace HL15:=hid (show X1.f15.n≤65536 by rw [←eX1];exact HL15.out)
    replace HL16:=hid (show X1.f16.n≤65536 by rw [←eX1];exact HL16.out)
    replace HL21:=hid (show X1.f21.n≤65536 by rw [←eX1];exact HL21.out)
    replace HKP:=hid (HKP.out.trans hk2)
    have HDV2:=hid (hk2 _ _ _ HDV1.out (by decide) (by decide) (by decide) HNE.out)
    have HDD:=hid (drew_row HDV2.out)
    replace HBK:=hid hb2
    clear hb2 hk2 HDV1 HNC HL11
    go_upto_region 6 with fail
    go_cut [] from 25 (fun wx=>∃ a2 c2,BK w y wx (mr12 X1 a2 c2 d.f2)∧KpL y V2 wx)
    case first =>
     refine wp_region_noPanic ?_
     refine wp_region_held_drew (S:=fun W=>W.heap[w5]?=some (.cells (cel (sDepositData d)) 58)) (by kernel_rfl) (HDD.out) (fun hHeld=>?_)
     generalize eWD:V2.drew=wd at hHeld ⊢
     have HBD:=hid (show BK w y wd X1 by rw [←eWD];exact HBK.out.drew)
     have HUD:=hid (show Up V2 wd by rw [←eWD];exact (Below.refl _ _).drew)
     clear eWD
     refine tk 0 (v:=?v201) ?y201 hHeld ?r201
     case y201=>intro w hSw;go_simp;try with_reducible rfl
     refine tk 1 (v:=?v202) ?y202 hHeld ?r202
     case y202=>intro w hSw;go_simp;try with_reducible rfl
     refine tk 2 (v:=?v203) ?y203 hHeld ?r203
     case y203=>intro w hSw;go_simp;try with_reducible rfl
     refine tk 3 (v:=?v204) ?y204 hHeld ?r204
     case y204=>intro w hSw;go_simp;try with_reducible rfl
     refine tk 5 (v:=?v205) ?y205 hHeld ?r205
     case y205=>intro w hSw;go_simp;try with_reducible rfl
     refine tk 6 (v:=?v206) ?y206 hHeld ?r206
     case y206=>intro w hSw;have ld0:=cD2 hSw;go_simp;try with_reducible rfl
     try simp only [Act.put,z_1,z_2,z_3,z_4,z_5,z_6,z_7]
     refine rd2 4 7 (fun K hK=>?_) (fun K hK=>?_)
     ·have ld4:=cS12 HBD.out.row
      go_simp
      clear ld4
      refine hK.out _ _ (hHeld) (fun hHeld=>?_)
      clear hK K
      try simp only [Act.put,z_1,z_2,z_3,z_4,z_5,z_6,z_7]
      refine rd1 7 (fun K hK=>?_)
      have zr:=bsNu_1 wd d.f2
      go_simp
      obtain ⟨x7,y7,hx,ey,r7,hd7,_⟩:=upN2 (Below.refl _ wd) (.cells #[.int .u64 d.f2] 22)
      rw [hx,ey]
      clear hx ey zr
      have hb7:=HBD.out.below hd7
      refine hK.out _ _ (upR hd7 hHeld) (fun hHeld=>?_)
      clear hK K
      try simp only [Act.put,z_1,z_2,z_3,z_4,z_5,z_6,z_7]
      have HD7:=hid hHeld
      refine rd1 8 (fun K hK=>?_)
      obtain ⟨a8,c8,x8,hr8,hb8,⟨u8,hc8⟩,hf8,hk8,hk9⟩:=hb7.at12 HL12.out d.f2 r7 37
      refine wp_app_is 37 _ _ rfl _ _ _ _ rfl rfl hr8 ?_
      refine hK.out _ _ (hk8 _ _ _ hHeld (by decide) (by decide) (by decide) HNE.out) (fun hHeld=>?_)
      clear hK K
      try simp only [Act.put,z_1,z_2,z_3,z_4,z_5,z_6,z_7]
      refine tk 9 (v:=?v207) ?y207 hHeld ?r207
      case y207=>intro w hSw;go_simp;try with_reducible rfl
      refine tk 10 (v:=?v208) ?y208 hHeld ?r208
      case y208=>intro w hSw;go_simp;try with_reducible rfl
      try simp only [Act.put,z_1,z_2,z_3,z_4,z_5,z_6,z_7]
      refine rd1 11 (fun K hK=>?_)
      go_simp
      refine hK.out _ _ (hk9 _ _ _ HD7.out (by decide) (by decide) (by decide) HNE.out) (fun hHeld=>?_)
      clear hK K
      try simp only [Act.put,z_1,z_2,z_3,z_4,z_5,z_6,z_7]
      refine wpAnyH_done (by kernel_rfl) ?_ _
      refine NoPanic.normal ?_
      go_wp2
      go_meet
      exact ⟨_,_,hb8,(KpL.of (upT HUD.out hd7)).trans hk9⟩
     ·have zr:=bsNu_1 wd d.f2
      go_simp
      obtain ⟨x7,y7,hx,ey,r7,hd7,_⟩:=upN2 (Below.refl _ wd) (.cells #[.int .u64 d.f2] 22)
      rw [hx,ey]
      clear hx ey zr
      have hb7:=HBD.out.below hd7
      refine hK.out _ _ (upR hd7 hHeld) (fun hHeld=>?_)
      clear hK K
      try simp only [Act.put,z_1,z_2,z_3,z_4,z_5,z_6,z_7]
      refine rd1 4 (fun K hK=>?_)
      have ld4:=cS12 hb7.row
      go_simp
      clear ld4
      refine hK.out _ _ (hHeld) (fun hHeld=>?_)
      clear hK K
      try simp only [Act.put,z_1,z_2,z_3,z_4,z_5,z_6,z_7]
      have HD7:=hid hHeld
      refine rd1 8 (fun K hK=>?_)
      obtain ⟨a8,c8,x8,hr8,hb8,⟨u8,hc8⟩,hf8,hk8,hk9⟩:=hb7.at12 HL12.out d.f2 r7 37
      refine wp_app_is 37 _ _ rfl _ _ _ _ rfl rfl hr8 ?_
      refine hK.out _ _ (hk8 _ _ _ hHeld (by decide) (by decide) (by decide) HNE.out) (fun hHeld=>?_)
      clear hK K
      try simp only [Act.put,z_1,z_2,z_3,z_4,z_5,z_6,z_7]
      refine tk 9 (v:=?v209) ?y209 hHeld ?r209
      case y209=>intro w hSw;go_simp;try with_reducible rfl
      refine tk 10 (v:=?v210) ?y210 hHeld ?r210
      case y210=>intro w hSw;go_simp;try with_reducible rfl
      try simp only [Act.put,z_1,z_2,z_3,z_4,z_5,z_6,z_7]
      refine rd1 11 (fun K hK=>?_)
      go_simp
      refine hK.out _ _ (hk9 _ _ _ HD7.out (by decide) (by decide) (by decide) HNE.out) (fun hHeld=>?_)
      clear hK K
      try simp only [Act.put,z_1,z_2,z_3,z_4,z_5,z_6,z_7]
      refine wpAnyH_done (by kernel_rfl) ?_ _
      refine NoPanic.normal ?_
      go_wp2
      go_meet
      exact ⟨_,_,hb8,(KpL.of (upT HUD.out hd7)).trans hk9⟩
    case rest =>
     obtain ⟨a2,c2,hb3,hk3⟩:=hcut
     obtain ⟨V3,rfl⟩:∃ V,V=wc:=⟨wc,rfl⟩
     obtain ⟨X2,eX2⟩:∃ Z,mr12 X1 a2 c2 d.f2=Z:=⟨_,rfl⟩
     rw [eX2] at hb3
     replace HL15:=hid (show X2.f15.n≤65536 by rw [←eX2];exact HL15.out)
     replace HL16:=hid (show X2.f16.n≤65536 by rw [←eX2];exact HL16.out)
     replace HL21:=hid (show X2.f21.n≤65536 by rw [←eX2];exact HL21.out)
     replace HKP:=hid (HKP.out.trans hk3)
     replace HBK:=hid hb3
     clear hb3 hk3 HDV2 HDD HL12
     obtain ⟨U15,hU15⟩:∃ W,World.alloc V3 (.cells #[.int .u8 0] 5)=W:=⟨_,rfl⟩
     have r15:U15.heap[V3.heap.size]?=some (.cells #[.int .u8 0] 5):=by rw [←hU15];exact heap_new rfl
     have hd15:Up V3 U15:=by rw [←hU15];exact (Below.refl _ _).alloc (Nat.le_refl _) _
     have l15:=cS15 HBK.out.row
     obtain ⟨a15,c15,x15,hr15,hb15,⟨u15,hc15⟩,hf15,_,hk15⟩:=(HBK.out.below hd15).at15 HL15.out 0 r15 39
     have HR15:=hid hr15
     have zb15:=bsBy_1 V3 0
     clear hr15 r15
     go_upto_region 8 with (at_builtin;refine wpB_app_is rfl 39 _ _ rfl _ _ _ _ rfl rfl HR15.out ?_)
     obtain ⟨V4,hV4⟩:∃ W,x15.setCell ⟨y,987,none⟩ (.slice a15 (X2.f15.n+1) c15)=W:=⟨_,rfl⟩
     rw [hV4] at hb15 hk15 ⊢
     obtain ⟨X3,eX3⟩:∃ Z,mr15 X2 a15 c15 0=Z:=⟨_,rfl⟩
     rw [eX3] at hb15
     replace HL16:=hid (show X3.f16.n≤65536 by rw [←eX3];exact HL16.out)
     replace HL21:=hid (show X3.f21.n≤65536 by rw [←eX3];exact HL21.out)
     replace HKP:=hid (HKP.out.trans ((KpL.of hd15).trans hk15))
     replace HBK:=hid hb15
     clear hb15 hk15 hc15 hf15 hU15 hd15 hV4 l15 HR15 zb15
     obtain ⟨U16,hU16⟩:∃ W,World.alloc V4 (.cells #[.int .u8 0] 5)=W:=⟨_,rfl⟩
     have r16:U16.heap[V4.heap.size]?=some (.cells #[.int .u8 0] 5):=by rw [←hU16];exact heap_new rfl
     have hd16:Up V4 U16:=by rw [←hU16];exact (Below.refl _ _).alloc (Nat.le_refl _) _
     have l16:=cS16 HBK.out.row
     obtain ⟨a16,c16,x16,hr16,hb16,⟨u16,hc16⟩,hf16,_,hk16⟩:=(HBK.out.below hd16).at16 HL16.out 0 r16 39
     have HR16:=hid hr16
     have zb16:=bsBy_1 V4 0
     clear hr16 r16
     go_upto_region 9 with (at_builtin;refine wpB_app_is rfl 39 _ _ rfl _ _ _ _ rfl rfl HR16.out ?_)
     obtain ⟨V5,hV5⟩:∃ W,x16.setCell ⟨y,988,none⟩ (.slice a16 (X3.f16.n+1) c16)=W:=⟨_,rfl⟩
     rw [hV5] at hb16 hk16 ⊢
     obtain ⟨X4,eX4⟩:∃ Z,mr16 X3 a16 c16 0=Z:=⟨_,rfl⟩
     rw [eX4] at hb16
     replace HL21:=hid (show X4.f21.n≤65536 by rw [←eX4];exact HL21.out)
     replace HKP:=hid (HKP.out.trans ((KpL.of hd16).trans hk16))
     replace HBK:=hid hb16
     clear hb16 hk16 hc16 hf16 hU16 hd16 hV5 l16 HR16 zb16
     obtain ⟨U21,hU21⟩:∃ W,World.alloc V5 (.cells #[.int .u64 0] 22)=W:=⟨_,rfl⟩
     have r21:U21.heap[V5.heap.size]?=some (.cells #[.int .u64 0] 22):=by rw [←hU21];exact heap_new rfl
     have hd21:Up V5 U21:=by rw [←hU21];exact (Below.refl _ _).alloc (Nat.le_refl _) _
     have l21:=cS21 HBK.out.row
     obtain ⟨a21,c21,x21,hr21,hb21,⟨u21,hc21⟩,hf21,_,hk21⟩:=(HBK.out.below hd21).at21 HL21.out 0 r21 37
     have HR21:=hid hr21
     have zb21:=bsNu_1 V5 0
     clear hr21 r21
     go_upto_region 10 with (at_builtin;refine wpB_app_is rfl 37 _ _ rfl _ _ _ _ rfl rfl HR21.out ?_)
     obtain ⟨V6,hV6⟩:∃ W,x21.setCell ⟨y,1092,none⟩ (.slice a21 (X4.f21.n+1) c21)=W:=⟨_,rfl⟩
     rw [hV6] at hb21 hk21 ⊢
     obtain ⟨X5,eX5⟩:∃ Z,mr21 X4 a21 c21 0=Z:=⟨_,rfl⟩
     rw [eX5] at hb21
     replace HKP:=hid (HKP.out.trans ((KpL.of hd21).trans hk21))
     replace HBK:=hid hb21
     clear hb21 hk21 hc21 hf21 hU21 hd21 hV6 l21 HR21 zb21
     go_wp2
     go_ret
     refine ⟨X5,rfl,?_,HBK.out,HKP.out⟩
     rw [←eX5,←eX4,←eX3,←eX2,←eX1]
     exact HSM0.out a1 a2 a15 a16 a21 c1 c2 c15 c16 c21
end
section
open Go.RowKit
set_option linter.unusedVariables false
set_option linter.unusedSimpArgs false
set_option maxRecDepth 20000
attribute [local go_sem ↓] lvState_eq lvDd_eq lv24_eq sv24_eq lvKy_eq bs22_eq
theorem lim_right {x:VState} (h:rightB x=true):Lim x:=by
 have:=right_small h
 exact ⟨by omega,by omega,by omega,by omega,by omega⟩
theorem rts_keep {y:Nat} {V W:World} {q:Nat} {f:Nat→Int} (h:V.heap[q]?=some (.cells (vs .u8 32 f) 24)) (hk:KpL y V W) (hq:q≠y):Rts W (some ⟨q,0,none⟩) 1 1 f:=by
 have:=hk _ _ _ h (by decide) (by decide) (by decide) hq
 exact .inr (.inr ⟨q,0,rfl,Nat.le_refl _,some_ltK this,fun j hj=>by rw [Nat.zero_add];exact row_int this j (by omega)⟩)
def TkA (X:VState) (d:VDepositData) (f:Nat→Int) (n y:Nat) (w V:World) (e':Ending) (V':World):Prop :=
 ∃ X' a c,e'=.returned (.tuple #[.slice a (tkK X d) c,.int .i64 (tkE X d f n)])∧(tkE X d f n=0→SimF (tkS X d f n) X')∧BK w y V' X'∧Rts V' a (tkK X d) c (dpQ d)∧NwL V.heap.size a (tkK X d)∧KpL y V V'
set_option maxHeartbeats 8000000 in
theorem take_any (X : VState) (d : VDepositData) (a : Option Addr) (n cap : Nat) (f : Nat → Int) (y : Nat) (w V : World) (hb : BK w y V X) (hl : Lim X) (hl12 : X.f12.n = X.f11.n) (hd : OkDepositData d) (hr : Rts V a n cap f) (hnn : n ≤ 9223372036854775807) (hS : Sh V) :
    Calls Tryz.prog 18 #[.pointer (some ⟨y,0,none⟩),.agg (cel (sDepositData d)),.slice a n cap] V (TkA X d f n y w V):=by
 obtain ⟨V1,hV1⟩:∃ W,V.alloc (.cells (cel (sDepositData d)) 58)=W:=⟨_,rfl⟩
 have r0:V1.heap[V.heap.size]?=some (.cells (cel (sDepositData d)) 58):=by rw [←hV1];exact heap_new rfl
 have hU1:Up V V1:=by rw [←hV1];exact (Below.refl _ _).alloc (Nat.le_refl _) _
 have hb1:=hb.below hU1
 have hyV:y < V.heap.size:=some_ltK hb.row
 have hwV:=hb.kep.size
 have hown:=fun (W:World) (h:Up V1 W)=>own_any X d.f0 W (hb1.below h).inW hl.1
 have htop:=fun (W:World) (i:Nat) (h:BK w y W X) (hi:i < X.f12.n)=>topUp_any X i y d.f2 w W h hi
 have hdq:=fun (W:World) (h:Up V W)=>dq_any d W hd (hS.below h)
 have hgo:=fun (W:World) (h:Up V W)=>goo_prog (dpQ d) f a n cap W (hr.below h) hnn
 have hen:=fun (W:World) (h:BK w y W X)=>enroll_any X d y w W h hl hd
 have hls:∀ W,Up V1 W→(lvState ⟨y,0,none⟩).run Tryz.prog W=.ok (.agg (cel (sState X))) W:=fun W h=>lvState_run (upR h hb1.row)
 have HLS:=hid hls
 have hlk:∀ W,Up V1 W→(lvKy ⟨V.heap.size,0,none⟩).run Tryz.prog W=.ok (.agg (vs .u8 48 d.f0)) W:=fun W h=>lvKy_mid fun j hj=>by rw [Nat.zero_add];exact cD0 (upR h r0) j hj
 have HLK:=hid hlk
 clear hls hlk
 have c2:=fun W (h:Up V1 W)=>cD2 (upR h r0)
 have ld:=fun W (h:Up V1 W)=>lvDd_run (upR h r0)
 have hrr:=fun W (h:Up V1 W)=>upR h r0
 have HRR:=hid hrr
 clear hrr
 unfold TkA
 have hK:tkK X d=if dpO X d < X.f11.n then 0 else 1:=rfl
 have hE:tkE X d f n=if dpO X d < X.f11.n then (if 144115188075855872 < d.f2 then 2 else 0) else if gdB (dpQ d) f n=true then (if 65536≤X.f11.n then 6 else if 144115188075855872 < d.f2 then 2 else 0) else 0:=rfl
 have hT:tkS X d f n=if dpO X d < X.f11.n then balS X (dpO X d) (w64 (X.f12.z (dpO X d)+d.f2)) else if gdB (dpQ d) f n=true then enS X d else X:=rfl
 have hO:owN X.f11.z d.f0 X.f11.n=dpO X d:=rfl
 simp only [hO] at hown
 obtain ⟨EE,eEE⟩:∃ e,tkE X d f n=e:=⟨_,rfl⟩
 obtain ⟨ET,eET⟩:∃ e,tkS X d f n=e:=⟨_,rfl⟩
 obtain ⟨KK,eKK⟩:∃ e,tkK X d=e:=⟨_,rfl⟩
 rw [eEE] at hE
 rw [eET] at hT
 rw [eKK] at hK
 rw [eEE,eET,eKK]
 have HBK:=hid hb1
 have HW:=hid hV1
 have HU1:=hid hU1
 have HDQ:=hid hdq
 have HGO:=hid hgo
 have HEN:=hid hen
 have HLD:=hid ld
 have HC2:=hid c2
 have hlim1:=hl.1
 by_cases ho:dpO X d < X.f11.n
 ·rw [if_pos ho] at hK hE hT
  simp only [if_pos ho,decide_eq_true ho] at hown
  obtain rfl:KK=0:=hK
  have hTP:=hid (fun (W:World) (h:BK w y W X)=>htop W (dpO X d) h (by omega))
  have HOW:=hid hown
  have hTE:EE=tpE d.f2:=hE
  have hTS:EE=0→SimF ET (tpS X (dpO X d) d.f2):=fun h=>by
   rw [hT]
   unfold tpS
   rw [hTE] at h
   unfold tpE at h
   by_cases h2:144115188075855872 < d.f2
   ·rw [if_pos h2] at h;omega
   ·rw [if_neg h2];exact .refl _
  obtain rfl:=hTE
  have HTS:=hid hTS
  clear hb hl hl12 hd hr hnn hS hV1 hU1 hb1 hown htop hdq hgo hen ld c2 hE hT eEE eET eKK hTS HDQ HGO HEN HLD hO r0 HRR
  generalize dpO X d=o at *
  generalize d.f0=KF at *
  go_enter Tryz.func18,Tryz.ntmps18
  go_upto_region 1 with fail
  rw [HW.out]
  refine wp_region_noPanic ?_
  refine wp_region_held_drew (S:=fun W=>Up V1 W) (by kernel_rfl) ((Below.refl _ _).drew) (fun hHeld=>?_)
  generalize V1.drew=wd at hHeld ⊢
  refine tk 0 (v:=?v301) ?y301 hHeld ?r301
  case y301=>intro w hSw;go_simp;try with_reducible rfl
  refine tk 1 (v:=?v302) ?y302 hHeld ?r302
  case y302=>intro w hSw;go_simp;try with_reducible rfl
  refine tk 2 (v:=?v303) ?y303 hHeld ?r303
  case y303=>intro w hSw;have ld0:=HLS.out w hSw;go_simp;try with_reducible rfl
  refine tk 3 (v:=?v304) ?y304 hHeld ?r304
  case y304=>intro w hSw;go_simp;try with_reducible rfl
  refine tk 4 (v:=?v305) ?y305 hHeld ?r305
  case y305=>intro w hSw;have ld0:=HLK.out w hSw;go_simp;try with_reducible rfl
  try simp only [Act.put,z_1,z_2,z_3,z_4,z_5,z_6,z_7]
  refine rd1 5 (fun K hK=>?_)
  go_simp
  refine (HOW.out _ hHeld).mono ?_
  rintro e' w1 ⟨rfl,hb1⟩
  dsimp only
  have hc1:=upT hHeld hb1
  refine hK.out _ _ hc1 (fun hHeld=>?_)
  clear hK K
  try simp only [Act.put,z_1,z_2,z_3,z_4,z_5,z_6,z_7]
  refine tk 6 (v:=?v306) ?y306 hHeld ?r306
  case y306=>intro w hSw;go_simp;try with_reducible rfl
  refine tk 7 (v:=?v307) ?y307 hHeld ?r307
  case y307=>intro w hSw;go_simp;try with_reducible rfl
  refine tk 8 (v:=?v308) ?y308 hHeld ?r308
  case y308=>intro w hSw;go_simp;try with_reducible rfl
  refine tk 9 (v:=?v309) ?y309 hHeld ?r309
  case y309=>intro w hSw;go_simp;try with_reducible rfl
  refine tk 10 (v:=?v310) ?y310 hHeld ?r310
  case y310=>intro w hSw;go_simp;try with_reducible rfl
  try simp only [Act.put,z_1,z_2,z_3,z_4,z_5,z_6,z_7]
  refine wpAnyH_done (by kernel_rfl) ?_ _
  refine NoPanic.normal ?_
  have HU2:=hid hc1
  clear hb1 hc1 hHeld
  go_upto_region 3 with fail
  have c3:=HC2.out w1 HU2.out
  have HB3:=hid (HBK.out.below HU2.out)
  go_wp2_with (go_at_call 55;refine (hTP.out w1 HB3.out).mono ?_;rintro e' w3 ⟨rfl,hb3⟩)
  go_ret2
  exact ⟨_,none,0,rfl,HTS.out,hb3.1,.inl ⟨rfl,rfl,rfl⟩,.inl rfl,(KpL.of (upT HU1.out HU2.out)).trans hb3.2⟩
 ·rw [if_neg ho] at hK hE hT
  simp only [if_neg ho,decide_eq_false ho] at hown
  obtain rfl:KK=1:=hK
  have HOW:=hid hown
  have hTE:gdB (dpQ d) f n=true→EE=enE X d∧ET=enS X d:=fun h=>by
   rw [hE,hT,if_pos h,if_pos h]
   exact ⟨rfl,rfl⟩
  have hTF:gdB (dpQ d) f n=false→EE=0∧ET=X:=fun h=>by
   rw [hE,hT,h]
   exact ⟨rfl,rfl⟩
  obtain ⟨QV,eQV⟩:∃ q,dpQ d=q:=⟨_,rfl⟩
  simp only [eQV] at HDQ HGO
  rw [eQV] at hTE hTF ⊢
  have HTE:=hid hTE
  have HTF:=hid hTF
  have HY:=hid hyV
  clear hb hl hl12 hd hr hnn hS hV1 hU1 hb1 hown htop hdq hgo hen ld c2 hE hT eEE eET eKK hTE hTF HC2 hO r0 eQV ho hyV hwV hlim1
  generalize d.f0=KF at *
  go_enter Tryz.func18,Tryz.ntmps18
  go_upto_region 1 with fail
  rw [HW.out]
  clear HW
  refine wp_region_noPanic ?_
  refine wp_region_held_drew (S:=fun W=>Up V1 W) (by kernel_rfl) ((Below.refl _ _).drew) (fun hHeld=>?_)
  generalize V1.drew=wd at hHeld ⊢
  refine tk 0 (v:=?v311) ?y311 hHeld ?r311
  case y311=>intro w hSw;go_simp;try with_reducible rfl
  refine tk 1 (v:=?v312) ?y312 hHeld ?r312
  case y312=>intro w hSw;go_simp;try with_reducible rfl
  refine tk 2 (v:=?v313) ?y313 hHeld ?r313
  case y313=>intro w hSw;have ld0:=HLS.out w hSw;go_simp;try with_reducible rfl
  refine tk 3 (v:=?v314) ?y314 hHeld ?r314
  case y314=>intro w hSw;go_simp;try with_reducible rfl
  refine tk 4 (v:=?v315) ?y315 hHeld ?r315
  case y315=>intro w hSw;have ld0:=HLK.out w hSw;go_simp;try with_reducible rfl
  try simp only [Act.put,z_1,z_2,z_3,z_4,z_5,z_6,z_7]
  refine rd1 5 (fun K hK=>?_)
  go_simp
  refine (HOW.out _ hHeld).mono ?_
  rintro e' w1 ⟨rfl,hb1⟩
  dsimp only
  have hc1:=upT hHeld hb1
  refine hK.out _ _ hc1 (fun hHeld=>?_)
  clear hK K
  try simp only [Act.put,z_1,z_2,z_3,z_4,z_5,z_6,z_7]
  refine tk 6 (v:=?v316) ?y316 hHeld ?r316
  case y316=>intro w hSw;go_simp;try with_reducible rfl
  refine tk 7 (v:=?v317) ?y317 hHeld ?r317
  case y317=>intro w hSw;go_simp;try with_reducible rfl
  refine tk 8 (v:=?v318) ?y318 hHeld ?r318
  case y318=>intro w hSw;go_simp;try with_reducible rfl
  refine tk 9 (v:=?v319) ?y319 hHeld ?r319
  case y319=>intro w hSw;go_simp;try with_reducible rfl
  refine tk 10 (v:=?v320) ?y320 hHeld ?r320
  case y320=>intro w hSw;go_simp;try with_reducible rfl
  try simp only [Act.put,z_1,z_2,z_3,z_4,z_5,z_6,z_7]
  refine wpAnyH_done (by kernel_rfl) ?_ _
  refine NoPanic.normal ?_
  have HU2:=hid hc1
  clear hb1 hc1 hHeld
  go_upto_region 4 with fail
  have ld1:=HLD.out w1 HU2.out
  have HQ1:=hid (HDQ.out w1 (upT HU1.out HU2.out))
  have zr:=zero_root
  clear HLS HLK HOW HDQ
  go_upto_region 5 with (go_at_call 56;refine HQ1.out.mono ?_;rintro e' w3 ⟨rfl,hb3⟩;have sv:=sv24_newv w3 (fun _=>0) QV)
  obtain ⟨W4,y4,hW4,ey4,r4,hd4,b4⟩:=upN2 hb3 (.cells (vs .u8 32 QV) 24)
  rw [hW4,ey4]
  have hu4:=upT HU2.out (upT hb3 hd4)
  have lq4:=lv24_run r4
  have bs1:=fun W=>bs22_1 W QV
  obtain ⟨W5,y5,hW5,ey5,r5,hd5,b5⟩:=upN2 hu4 (.cells (vs .u8 32 QV) 24)
  have hu5:=upT hu4 hd5
  have lq5:=lv24_run (upR hd5 r4)
  have RQ5:=hid r5
  have HU5:=hid hu5
  have HG5:=hid (HGO.out W5 (upT HU1.out hu5))
  have y5b:V1.heap.size≤y5:=b5
  have y5c:V.heap.size≤y5:=Nat.le_trans HU1.out.size y5b
  have y5n:y5≠y:=by have:=HY.out;omega
  have LD5:=hid (HRR.out W5 hu5)
  clear hW4 ey4 r4 hd4 b4 hu4 hb3 HQ1 HU2 hd5 hu5 sv zr HGO b5 HLD ld1 HRR
  go_upto_region 6 with fail
  clear hW5 ey5 bs1 lq4 r5
  cases hG:gdB QV f n
  ·obtain ⟨rfl,rfl⟩:=HTF.out hG
   rw [hG] at HG5
   clear HTE HTF HEN LD5 hG
   go_wp2_with (go_at_call 32;refine HG5.out.mono ?_;rintro e' w6 ⟨rfl,hb6⟩)
   go_ret2
   exact ⟨ET,some ⟨y5,0,none⟩,1,rfl,SimF.refl _,HBK.out.below (upT HU5.out hb6),rts_keep RQ5.out (KpL.of hb6) y5n,.inr ⟨_,rfl,y5c⟩,KpL.of (upT HU1.out (upT HU5.out hb6))⟩
  ·obtain ⟨e1,e2⟩:=HTE.out hG
   rw [hG] at HG5
   have hen:=HEN.out
   simp only [←e1,←e2] at hen
   clear HEN HTE HTF hG e1 e2
   have HEN:=hid hen
   clear hen
   go_upto_region 8 with (go_at_call 32;refine HG5.out.mono ?_;rintro e' w6 ⟨rfl,hb6⟩)
   have ld6:=lvDd_run (upR hb6 LD5.out)
   have HE6:=hid (HEN.out w6 (HBK.out.below (upT HU5.out hb6)))
   have HU6:=hid (upT HU1.out (upT HU5.out hb6))
   have RQ6:=hid (upR hb6 RQ5.out)
   clear LD5 HEN HG5 hb6 RQ5 lq5
   go_wp2_with (go_at_call 57;refine HE6.out.mono ?_;rintro e' w7 ⟨X7,rfl,hs7,hb7,hk7⟩)
   go_ret2
   exact ⟨X7,some ⟨y5,0,none⟩,1,rfl,fun h=>by rw [if_pos h] at hs7;exact hs7,hb7,rts_keep RQ6.out hk7 y5n,.inr ⟨_,rfl,y5c⟩,(KpL.of HU6.out).trans hk7⟩
end
end Go.Proofs.YtfgmddnfhphdeaaGreatDoor
