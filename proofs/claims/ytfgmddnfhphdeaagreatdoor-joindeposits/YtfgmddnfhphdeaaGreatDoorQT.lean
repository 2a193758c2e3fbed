/- A part. -/
import Derived.Test.YtfgmddnfhphdeaaGreatDoorCoA
import Derived.Test.YtfgmddnfhphdeaaGreatDoorQQ
import Derived.Test.YtfgmddnfhphdeaaGreatDoorQE
import Derived.Test.YtfgmddnfhphdeaaGreatDoorQL
import Derived.Test.YtfgmddnfhphdeaaGreatDoorMaC
import Derived.Test.YtfgmddnfhphdeaaGreatDoorStP
import Derived.ChangeSlices
import Derived.ChangeArms
import Derived.ChangeOld
import Derived.SizedLaws
namespace Go.Proofs.YtfgmddnfhphdeaaGreatDoor
open Go.RowKit
set_option linter.unusedVariables false
set_option linter.unusedSimpArgs false
section
open Go.RowKit
set_option linter.unusedVariables false
set_option linter.unusedSimpArgs false
attribute [local go_sem ↓] sv24_eq lv24_eq ix22_eq slr_eq bd27_eq bs22_eq bsP_eq bsI_eq lvCheckpoint_eq
end
section
open Go.RowKit
set_option linter.unusedVariables false
set_option linter.unusedSimpArgs false
attribute [local go_sem ↓] sv24_eq lv24_eq ix22_eq slr_eq bd27_eq bs22_eq
set_option maxRecDepth 20000 in
set_option maxHeartbeats 2000000 in
theorem rrootDepositData_any (x : VDepositData) (w : World) (hx : OkDepositData x) (hC : Rc w) :
    Calls Tryz.prog 12 #[.agg (cel (sDepositData x))] w fun e w'=>e=.returned (.tuple #[.agg (vs .u8 32 (hDepositData x)),.int .i64 0])∧Below w.heap.size w w':=by
 have z:=zero_root
 have zc:∀ W:World,(zeroValue 98).run Tryz.prog W=.ok (.agg (vs .u8 128 (fl7 [fun _=>0,fun _=>0,fun _=>0,fun _=>0]))) W:=(zero_of_info (n:=128) (by kernel_rfl)).1
 obtain ⟨y,ey⟩:∃ y,w.heap.size=y:=⟨_,rfl⟩
 obtain ⟨W1,hW1⟩:∃ W,w.alloc (.cells (cel (sDepositData x)) 58)=W:=⟨_,rfl⟩
 obtain ⟨W2,hW2⟩:∃ W,W1.alloc (.cells (vs .u8 32 fun _=>0) 24)=W:=⟨_,rfl⟩
 obtain ⟨V0,hV0⟩:∃ W,W2.alloc (.cells (vs .u8 128 (fl7 [fun _=>0,fun _=>0,fun _=>0,fun _=>0])) 98)=W:=⟨_,rfl⟩
 have z1:W1.heap.size=y+1:=by rw [←hW1,←ey];simp
 have z2:W2.heap.size=y+2:=by rw [←hW2];simp [z1]
 have z3:V0.heap.size=y+3:=by rw [←hV0];simp [z2]
 have hB0:Below w.heap.size w V0:=by rw [←hV0,←hW2,←hW1];exact (((Below.refl _ _).alloc (Nat.le_refl _) _).alloc (by simp) _).alloc (by simp;omega) _
 have r1:V0.heap[y]?=some (.cells (cel (sDepositData x)) 58):=by rw [←hV0];refine (heap_old (by omega)).trans ?_;rw [←hW2];refine (heap_old (by omega)).trans ?_;rw [←hW1];exact heap_new ey.symm
 have r2:V0.heap[y+1]?=some (.cells (vs .u8 32 fun _=>0) 24):=by rw [←hV0];refine (heap_old (by omega)).trans ?_;rw [←hW2];exact heap_new z1.symm
 have r3:V0.heap[y+2]?=some (.cells (vs .u8 (32*4) (fl7 [fun _=>0,fun _=>0,fun _=>0,fun _=>0])) 98):=by rw [←hV0];exact heap_new z2.symm
 have hry:∀ X,Below (y+2) V0 X→X.heap[y]?=some (.cells (cel (sDepositData x)) 58):=fun X h=>(h.block _ (by omega)).trans r1
 have hrr:∀ X,Below (y+2) V0 X→X.heap[y+1]?=some (.cells (vs .u8 32 fun _=>0) 24):=fun X h=>(h.block _ (by omega)).trans r2
 have hRc:∀ X,Below (y+2) V0 X→Rc X:=fun X h=>hC.below (hB0.trans (h.mono (by omega)))
 have hk0:∀ X,Below (y+2) V0 X→Calls Tryz.prog 35 #[.slice (some ⟨y,0,none⟩) 48 48] X fun e w'=>∃ a' cap',e=.returned (.slice a' 2 cap')∧Below X.heap.size X w'∧Rts w' a' 2 cap' (pk x.f0 48):=fun X h=>rpack_any _ 48 48 x.f0 X (seg_bys (hry X h) 0 48 x.f0 rfl 0 rfl (by omega)) (by omega)
 have hc0:∀ X a c,Below (y+2) V0 X→Rts X a 2 c (pk x.f0 48)→Calls Tryz.prog 34 #[.slice a 2 c,.int .i64 2] X fun e w'=>e=.returned (.agg (vs .u8 32 (bR x.f0 48)))∧Below X.heap.size X w':=fun X a c h hr=>must7 a 2 c (pk x.f0 48) 2 X (hRc X h) hr (rts_cap hr (by omega)) (pk_bd hx.1 _) (by decide) (by decide) (by decide)
 have hd0:∀ j,j < 32→0≤(bR x.f0 48) j∧(bR x.f0 48) j < 256:=fun j hj=>treeV_bd (pk_bd hx.1 _) _ j hj
 have HL1:Hid (∀ X,Below (y+2) V0 X→(lv24 ⟨y,48,none⟩).run Tryz.prog X=.ok (.agg (vs .u8 32 x.f1)) X):=fun X h=>lv24_mid (fun j hj=>by
  rw [row_cell (hry X h)]
  exact cel_at (sDepositData x) 1 j (Seg.by 32 x.f1) rfl hj)
 have hd1:∀ j,j < 32→0≤x.f1 j∧x.f1 j < 256:=hx.2.1
 have hc2:∀ X a c,Below (y+2) V0 X→Bys X a 8 c (nmB x.f2)→Calls Tryz.prog 36 #[.slice a 8 c] X fun e w'=>e=.returned (.agg (vs .u8 32 (bR (nmB x.f2) 8)))∧Below X.heap.size X w':=fun X a c h hb=>chunk7 a 8 c (nmB x.f2) X (hRc X h) hb (by omega) (by omega) (fun j _=>nmB_bd _ j)
 have HL2:Hid (∀ X,Below (y+2) V0 X→X.cell? ⟨y,80,none⟩=some (.int .u64 x.f2)):=fun X h=>seg_nu (hry X h) 2 x.f2 rfl 80 rfl
 have hd2:∀ j,j < 32→0≤(bR (nmB x.f2) 8) j∧(bR (nmB x.f2) 8) j < 256:=fun j hj=>treeV_bd (pk_bd (fun j _=>nmB_bd _ j) _) _ j hj
 have hk3:∀ X,Below (y+2) V0 X→Calls Tryz.prog 35 #[.slice (some ⟨y,81,none⟩) 96 96] X fun e w'=>∃ a' cap',e=.returned (.slice a' 3 cap')∧Below X.heap.size X w'∧Rts w' a' 3 cap' (pk x.f3 96):=fun X h=>rpack_any _ 96 96 x.f3 X (seg_bys (hry X h) 3 96 x.f3 rfl 81 rfl (by omega)) (by omega)
 have hc3:∀ X a c,Below (y+2) V0 X→Rts X a 3 c (pk x.f3 96)→Calls Tryz.prog 34 #[.slice a 3 c,.int .i64 3] X fun e w'=>e=.returned (.agg (vs .u8 32 (bR x.f3 96)))∧Below X.heap.size X w':=fun X a c h hr=>must7 a 3 c (pk x.f3 96) 3 X (hRc X h) hr (rts_cap hr (by omega)) (pk_bd hx.2.2.2 _) (by decide) (by decide) (by decide)
 have hd3:∀ j,j < 32→0≤(bR x.f3 96) j∧(bR x.f3 96) j < 256:=fun j hj=>treeV_bd (pk_bd hx.2.2.2 _) _ j hj
 have eh:∀ j,j < 32→treeV (fl7 [bR x.f0 48,x.f1,bR (nmB x.f2) 8,bR x.f3 96]) 4 (4:Nat) j=hDepositData x j:=fun j hj=>treeV_congr (fun q hq=>by
  unfold fl7
  have hq5:=Nat.mod_lt q (show 0 < 32 by omega)
  rcases (by omega:q / 32=0∨q / 32=1∨q / 32=2∨q / 32=3) with e | e | e | e
  ·first | (rw [e];done) | (rw [e];rfl)
  ·rw [e];exact (bR_32 x.f1 _ hq5).symm
  ·first | (rw [e];done) | (rw [e];rfl)
  ·first | (rw [e];done) | (rw [e];rfl)
  ) _ j hj
 obtain ⟨C0,eC0⟩:∃ C,bR x.f0 48=C:=⟨_,rfl⟩
 rw [eC0] at hd0 hc0
 simp only [eC0] at eh
 have HC0:=hid hc0
 have HK0:=hid hk0
 obtain ⟨C1,eC1⟩:∃ C,x.f1=C:=⟨_,rfl⟩
 rw [eC1] at hd1 HL1
 simp only [eC1] at eh
 obtain ⟨C2,eC2⟩:∃ C,bR (nmB x.f2) 8=C:=⟨_,rfl⟩
 rw [eC2] at hd2 hc2
 simp only [eC2] at eh
 have HC2:=hid hc2
 obtain ⟨C3,eC3⟩:∃ C,bR x.f3 96=C:=⟨_,rfl⟩
 rw [eC3] at hd3 hc3
 simp only [eC3] at eh
 have HC3:=hid hc3
 have HK3:=hid hk3
 have hmu:∀ X,Below (y+2) V0 X→X.heap[y+2]?=some (.cells (vs .u8 (32*4) (fl7 [C0,C1,C2,C3])) 98)→Calls Tryz.prog 34 #[.slice (some ⟨y+2,0,none⟩) 4 4,.int .i64 4] X fun e w'=>e=.returned (.agg (vs .u8 32 (hDepositData x)))∧Below X.heap.size X w':=fun X h h2=>by
  have:=must7 (some ⟨y+2,0,none⟩) 4 4 (fl7 [C0,C1,C2,C3]) (4:Nat) X (hRc X h) (rts_row h2) (by omega) (fl7_bd (fun c hc=>by
   simp only [List.mem_cons,List.not_mem_nil,or_false] at hc
   rcases hc with rfl | rfl | rfl | rfl
   ·exact hd0
   ·exact hd1
   ·exact hd2
   ·exact hd3
   ) _) (by decide) (by decide) (by decide)
  rw [vs_congr (fun j hj=>eh j hj)] at this
  exact this
 obtain ⟨D,eD⟩:∃ D,hDepositData x=D:=⟨_,rfl⟩
 rw [eD] at hmu ⊢
 obtain ⟨u,eu⟩:∃ u,y+2=u:=⟨_,rfl⟩
 rw [eu] at hmu
 have HU:=hid eu
 have HMU:=hid hmu
 have HRR:=hid hrr
 have HB0w:=hid hB0
 have EY:=hid ey
 have Z3:=hid z3
 have HX:=hid hx
 have RV0:=hid r3
 have SV0:=hid (Below.refl (y+2) V0)
 rw [eu] at RV0
 clear hmu hrr hB0 z3 r1 r2 r3 hry hRc hx hC eh eD hd0 eC0 hc0 hk0 hd1 eC1 hd2 eC2 hc2 hd3 eC3 hc3 hk3
 go_enter Tryz.func12,Tryz.ntmps12
 go_upto_region 3 with fail
 clear hW1 hW2 hV0 z1 z2 ey z zc
 try rw [eu]
 clear eu
 go_upto_region 4 with (first
  | (go_at_call 35; refine (HK0.out _ SV0.out).mono ?_; rintro e Y ⟨a, c, rfl, hb, hr⟩; have SY := hid (SV0.out.trans (hb.mono (by have h1 := HU.out; have h2 := Z3.out; have h3 := SV0.out.size; omega))); have RY := hid ((hb.block _ (Array.getElem?_eq_some_iff.1 RV0.out).1).trans RV0.out); have CY := hid (HC0.out _ _ _ SY.out hr); clear hr hb)
  | (go_at_call 34; refine CY.out.mono ?_; rintro e X0 ⟨rfl, hb⟩; have sb := SY.out.trans (hb.mono (by have h1 := HU.out; have h2 := Z3.out; have h3 := SY.out.size; omega)); have rb := (hb.block _ (Array.getElem?_eq_some_iff.1 RY.out).1).trans RY.out; obtain ⟨sv, nr, nb⟩ := put7 (l := [fun _ => 0, fun _ => 0, fun _ => 0, fun _ => 0]) (n := 4) sb (by rw [← HU.out]; exact Nat.le_refl _) rb 0 C0 (by omega) rfl; have NR := hid nr; have NB := hid nb; clear nr nb sb rb hb))
 clear CY
 obtain ⟨V1,hV⟩:∃ V,X0.setCells u 0 (bl C0 32)=V:=⟨_,rfl⟩
 have RV1:Hid (V1.heap[u]?=some (.cells (vs .u8 (32*4) (fl7 [C0,fun _=>0,fun _=>0,fun _=>0])) 98)):=by rw [←hV];exact NR.out
 have SV1:Hid (Below (y+2) V0 V1):=by rw [←hV];exact NB.out
 rw [hV]
 clear hV NR NB sv
 have ld:=HL1.out _ SV1.out
 obtain ⟨sv,nr,nb⟩:=put7 (l:=[C0,fun _=>0,fun _=>0,fun _=>0]) (n:=4) SV1.out (by rw [←HU.out];exact Nat.le_refl _) RV1.out 1 C1 (by omega) rfl
 have NR:=hid nr
 have NB:=hid nb
 clear nr nb
 go_upto_region 5 with fail
 clear ld
 obtain ⟨V2,hV⟩:∃ V,V1.setCells u 32 (bl C1 32)=V:=⟨_,rfl⟩
 have RV2:Hid (V2.heap[u]?=some (.cells (vs .u8 (32*4) (fl7 [C0,C1,fun _=>0,fun _=>0])) 98)):=by rw [←hV];exact NR.out
 have SV2:Hid (Below (y+2) V0 V2):=by rw [←hV];exact NB.out
 rw [hV]
 clear hV NR NB sv
 have ld:=HL2.out _ SV2.out
 go_upto_region 6 with (first
  | (go_at_call 37; refine (rnumber7 x.f2 _ HX.out.2.2.1.1 HX.out.2.2.1.2).mono ?_; rintro e Y ⟨v, rfl, ho, hb⟩; obtain ⟨a, c, rfl, hr⟩ := own_at ho; clear ho; have SY := hid (SV2.out.trans (hb.mono (by have h1 := HU.out; have h2 := Z3.out; have h3 := SV2.out.size; omega))); have RY := hid ((hb.block _ (Array.getElem?_eq_some_iff.1 RV2.out).1).trans RV2.out); have CY := hid (HC2.out _ _ _ SY.out hr); clear hr hb)
  | (go_at_call 36; refine CY.out.mono ?_; rintro e X2 ⟨rfl, hb⟩; have sb := SY.out.trans (hb.mono (by have h1 := HU.out; have h2 := Z3.out; have h3 := SY.out.size; omega)); have rb := (hb.block _ (Array.getElem?_eq_some_iff.1 RY.out).1).trans RY.out; obtain ⟨sv, nr, nb⟩ := put7 (l := [C0, C1, fun _ => 0, fun _ => 0]) (n := 4) sb (by rw [← HU.out]; exact Nat.le_refl _) rb 2 C2 (by omega) rfl; have NR := hid nr; have NB := hid nb; clear nr nb sb rb hb))
 clear CY ld
 obtain ⟨V3,hV⟩:∃ V,X2.setCells u 64 (bl C2 32)=V:=⟨_,rfl⟩
 have RV3:Hid (V3.heap[u]?=some (.cells (vs .u8 (32*4) (fl7 [C0,C1,C2,fun _=>0])) 98)):=by rw [←hV];exact NR.out
 have SV3:Hid (Below (y+2) V0 V3):=by rw [←hV];exact NB.out
 rw [hV]
 clear hV NR NB sv
 go_upto_region 7 with (first
  | (go_at_call 35; refine (HK3.out _ SV3.out).mono ?_; rintro e Y ⟨a, c, rfl, hb, hr⟩; have SY := hid (SV3.out.trans (hb.mono (by have h1 := HU.out; have h2 := Z3.out; have h3 := SV3.out.size; omega))); have RY := hid ((hb.block _ (Array.getElem?_eq_some_iff.1 RV3.out).1).trans RV3.out); have CY := hid (HC3.out _ _ _ SY.out hr); clear hr hb)
  | (go_at_call 34; refine CY.out.mono ?_; rintro e X3 ⟨rfl, hb⟩; have sb := SY.out.trans (hb.mono (by have h1 := HU.out; have h2 := Z3.out; have h3 := SY.out.size; omega)); have rb := (hb.block _ (Array.getElem?_eq_some_iff.1 RY.out).1).trans RY.out; obtain ⟨sv, nr, nb⟩ := put7 (l := [C0, C1, C2, fun _ => 0]) (n := 4) sb (by rw [← HU.out]; exact Nat.le_refl _) rb 3 C3 (by omega) rfl; have NR := hid nr; have NB := hid nb; clear nr nb sb rb hb))
 clear CY
 obtain ⟨V4,hV⟩:∃ V,X3.setCells u 96 (bl C3 32)=V:=⟨_,rfl⟩
 have RV4:Hid (V4.heap[u]?=some (.cells (vs .u8 (32*4) (fl7 [C0,C1,C2,C3])) 98)):=by rw [←hV];exact NR.out
 have SV4:Hid (Below (y+2) V0 V4):=by rw [←hV];exact NB.out
 rw [hV]
 clear hV NR NB sv
 have HM:=hid (HMU.out _ (by have:=SV4.out;rw [HU.out] at this;exact this) RV4.out)
 go_wp2_with (go_at_call 34;refine HM.out.mono ?_;rintro e Y ⟨rfl,hb⟩;have sy:=SV4.out.trans (hb.mono (by have h1:=HU.out;have h2:=Z3.out;have h3:=SV4.out.size;omega));have rY:=HRR.out _ sy;have s1:=sv24_run rY D;have RY:=hid rY;have SY:=hid sy;clear rY sy hb)
 refine ret24s _ _ (y+1) _ 24 _ rfl rfl rfl rfl (setRow_at RY.out) ⟨rfl,?_⟩
 have e0:=EY.out
 exact below_row (HB0w.out.trans (SY.out.mono (by omega))) (by omega) _
end
section
open Go.RowKit
set_option linter.unusedVariables false
set_option linter.unusedSimpArgs false
attribute [local go_sem ↓] sv24_eq lv24_eq ix22_eq slr_eq bd27_eq bs22_eq mkI_eq ixI_eq ixP_eq bsP_eq bsI_eq lvFork_eq svFork_eq bdFork_eq lvCheckpoint_eq svCheckpoint_eq bdCheckpoint_eq lvValidator_eq svValidator_eq bdValidator_eq lvEth1_eq svEth1_eq bdEth1_eq lvHeader_eq svHeader_eq bdHeader_eq lvExit_eq svExit_eq bdExit_eq lvDepositData_eq svDepositData_eq bdDepositData_eq lvSignedExit_eq svSignedExit_eq bdSignedExit_eq
end
section
open Go.RowKit
set_option linter.unusedVariables false
set_option linter.unusedSimpArgs false
set_option maxRecDepth 20000
structure VProof where
 f0:Nat→Int
def sProof (x:VProof):List Seg:=[.by 224 x.f0]
def OkProof (x:VProof):Prop:=∀ j,j < 224→0≤x.f0 j∧x.f0 j < 256
def oProof:VProof:=⟨fun _=>0⟩
structure VDeposit where
 f0:VProof
 f1:VDepositData
def sDeposit (x:VDeposit):List Seg:=sProof x.f0++sDepositData x.f1
def OkDeposit (x:VDeposit):Prop:=OkProof x.f0∧OkDepositData x.f1
def lvProof (a:Addr):Sem Value:=loadVar 54 a
theorem lvProof_eq (a:Addr):loadVar 54 a=lvProof a:=rfl
def lvDeposit (a:Addr):Sem Value:=loadVar 60 a
theorem lvDeposit_eq (a:Addr):loadVar 60 a=lvDeposit a:=rfl
def ixR7 (x i:Value):Sem Value:=Instr.index 54 x i
theorem ixR7_eq (x i:Value):Instr.index 54 x i=ixR7 x i:=rfl
attribute [local go_sem ↓] sv24_eq ixR7_eq lvProof_eq
def oDeposit:VDeposit:=⟨oProof,oDepositData⟩
theorem zeroDeposit (W:World):(zeroValue 60).run Tryz.prog W=.ok (.agg (cel (sDeposit oDeposit))) W:=by kernel_rfl
attribute [local go_sem ↓] bsP_eq lvDepositData_eq
end
section
open Go.RowKit Go.ChangeShapes Go.WideShapes
set_option linter.unusedVariables false
set_option linter.unusedSimpArgs false
theorem open_root1 {H : Type} {enc : TypeId × Value → H} {W : World} {base n : Nat} {held : Bool} {sp : Nat → Bool} {x : Addr} {y : DataW H × List MemPlace} (h : (W.cells? base x (Tryz.prog.cellsOf 24)).bind (DataW.trod enc Tryz.prog W base sp held n 24) = some y) :
    ∀ j,j < 32→∃ z,W.cell? (x.add j)=some (.int .u8 z)∧0≤z∧z < 256:=by
 have hce:Tryz.prog.cellsOf 5=1:=by kernel_rfl
 have hct:Tryz.prog.cellsOf 24=32:=by kernel_rfl
 rw [Option.bind_eq_some_iff] at h
 obtain ⟨cs,hcs,ht⟩:=h
 obtain ⟨xs,m,rfl,_,hl,hxl,hat⟩:=DataW.trod_array Tryz.underlying24 ht
 intro j hj
 have ha:=hat j hj
 rw [List.getElem?_eq_getElem (by omega)] at ha
 obtain ⟨z,hc,_,hwf⟩:=DataW.trod_int Tryz.underlying5 ha
 have hcj:cs[j]?=some (.int .u8 z):=by
  have:=congrArg (·[0]?) hc
  simpa [hce,List.getElem?_take,List.getElem?_drop,Value.cells] using this
 have hb:=bounds_u8 hwf
 refine ⟨z,?_,by omega,by omega⟩
 rw [(World.cells?_some hcs).2.2 j (by rw [hct];exact hj)]
 exact hcj
theorem open_roots {H : Type} {enc : TypeId × Value → H} {W : World} {base : Nat} {held : Bool} {a : Option Addr} {len cap : Nat} {d : DataW H} {ps : List MemPlace} (h : DataW.Trod enc Tryz.prog W base (fun _ => true) held 32 (.slice a len cap) d ps) :
    ∃ f:Nat→Int,Rts W a len cap f∧ByB f (32*len)∧len≤cap∧Holds1 d cap:=by
 obtain ⟨fuel,hf⟩:=h
 have hct:Tryz.prog.cellsOf 24=32:=by kernel_rfl
 rcases DataW.trod_slice Tryz.underlying32 hf with ⟨hcs,hx⟩ | ⟨x,l,c,el,rest,n,rfl,hcs,hx,hbs,hl,hm,hel,hat,hsp,_⟩
 ·simp [Value.cells] at hcs
  obtain ⟨rfl,rfl,rfl⟩:=hcs
  simp only [Prod.mk.injEq] at hx
  exact ⟨fun _=>0,.inl ⟨rfl,rfl,rfl⟩,fun q hq=>by omega,Nat.le_refl _,.inl ⟨hx.1,rfl⟩⟩
 ·simp [Value.cells] at hcs
  obtain ⟨rfl,rfl,rfl⟩:=hcs
  simp only [Prod.mk.injEq] at hx
  have hr:=(hsp rfl).1
  have hspot:0 < len→∃ b off,x=⟨b,off,none⟩:=by
   intro h0
   have h1:=hat 0 h0
   rw [List.getElem?_eq_getElem (by omega)] at h1
   obtain ⟨z,hz,_⟩:=open_root1 h1 0 (by omega)
   obtain ⟨b,off,spot⟩:=x
   have hs:spot=none:=by
    have:=World.cell?_spot hz
    simpa [Addr.add] using this
   subst hs
   exact ⟨b,off,rfl⟩
  have key:∀ q,q < 32*len→∃ z,W.cell? (x.add q)=some (.int .u8 z)∧0≤z∧z < 256:=by
   intro q hq
   have h1:=hat (q / 32) (by omega)
   rw [List.getElem?_eq_getElem (by omega)] at h1
   obtain ⟨z,hz,hb⟩:=open_root1 h1 (q % 32) (by omega)
   rw [hct] at hz
   refine ⟨z,?_,hb⟩
   obtain ⟨b,off,rfl⟩:=hspot (by omega)
   rw [addr_add,addr_add] at hz
   rw [addr_add]
   rw [show off+q / 32*32+q % 32=off+q by omega] at hz
   exact hz
  refine ⟨fun q=>match W.cell? (x.add q) with | some (.int _ z)=>z | _=>0,?_,fun q hq=>?_,hl,.inr ⟨_,_,hx.1,by simp;omega⟩⟩
  ·by_cases h0:len=0
   ·exact .inr (.inl ⟨x,rfl,h0⟩)
   ·obtain ⟨z0,hz0,_⟩:=key 0 (by omega)
    obtain ⟨b,off,rfl⟩:=spot_none hz0
    refine .inr (.inr ⟨b,off,rfl,hl,World.block_lt_of_cell? W _ hz0,fun j hj=>?_⟩)
    obtain ⟨z,hz,_⟩:=key j hj
    rw [←addr_add]
    simp only [hz]
  ·obtain ⟨z,hz,hb⟩:=key q hq
   simp only [hz]
   exact hb
end
section
open Go.RowKit
set_option linter.unusedVariables false
set_option linter.unusedSimpArgs false
set_option maxRecDepth 20000
theorem lst_rs {H : Type} {enc : TypeId × Value → H} {P : Program} {w : World} {b0 fuel : Nat} {sp : Nat → Bool} {held : Bool} {t e e8 : TypeId} {cs : List Value} {x : DataW H × List MemPlace}
    (ht:P.underlying t=some (.array 7 e)) (hk:P.underlying e=some (.array 32 e8)) (he:P.underlying e8=some (.int .u8)) (hck:P.cellsOf e=32) (hce:P.cellsOf e8=1) (hl:cs.length=224) (h:DataW.trod enc P w b0 sp held fuel t cs=some x) :
    ∃ f:Nat→Int,cs=(List.range 224).map (fun j=>Value.int .u8 (f j))∧∀ j,j < 224→0≤f j∧f j < 256:=by
 obtain ⟨xs,m,rfl,_,_,hxl,hat⟩:=DataW.trod_array ht h
 have hcell:∀ q,q < 224→∃ z:Int,cs[q]?=some (.int .u8 z)∧0≤z∧z < 256:=by
  intro q hq
  have ha:=hat (q / 32) (by omega)
  rw [List.getElem?_eq_getElem (by omega),hck] at ha
  obtain ⟨g,hc,hb⟩:=lst_by hk he hce (by rw [List.length_take,List.length_drop,hl];omega) ha
  refine ⟨g (q % 32),?_,hb _ (by omega)⟩
  have:=congrArg (·[q % 32]?) hc
  simp only [List.getElem?_take,List.getElem?_drop] at this
  rw [if_pos (by omega),List.getElem?_map,List.getElem?_range (by omega)] at this
  exact (congrArg (fun i=>cs[i]?) (show q=q / 32*32+q % 32 by omega)).trans this
 refine ⟨byteOf cs.toArray,?_,fun j hj=>?_⟩
 ·apply List.ext_getElem?
  intro i
  rw [List.getElem?_map]
  by_cases hi:i < 224
  ·obtain ⟨z,hz,_⟩:=hcell i hi
   rw [List.getElem?_range hi,hz]
   show some _=some (Value.int .u8 (byteOf cs.toArray i))
   unfold byteOf
   rw [List.getElem?_toArray,hz]
  ·rw [List.getElem?_eq_none (by omega),List.getElem?_eq_none (by simpa using hi)]
   rfl
 ·obtain ⟨z,hz,hb⟩:=hcell j hj
  unfold byteOf
  rw [List.getElem?_toArray,hz]
  exact hb
theorem opl_Proof {H : Type} {enc : TypeId × Value → H} {w : World} {b0 fuel : Nat} {sp : Nat → Bool} {held : Bool} {cs : List Value} {y : DataW H × List MemPlace}
    (hsl:cs.length=224) (h:DataW.trod enc Tryz.prog w b0 sp held fuel 54 cs=some y):∃ x:VProof,cs=celL (sProof x)∧OkProof x:=by
 obtain ⟨f0,e0,k0⟩:=lst_rs Tryz.underlying54 Tryz.underlying24 Tryz.underlying5 (by kernel_rfl) (by kernel_rfl) hsl h
 refine ⟨⟨f0⟩,?_,k0⟩
 rw [e0]
 show _=(List.range 224).map _++[]
 rw [List.append_nil]
 rfl
set_option maxRecDepth 100000 in
theorem opl_DepositData {H : Type} {enc : TypeId × Value → H} {w : World} {b0 fuel : Nat} {sp : Nat → Bool} {held : Bool} {cs : List Value} {y : DataW H × List MemPlace}
    (hsl:cs.length=177) (h:DataW.trod enc Tryz.prog w b0 sp held fuel 58 cs=some y):∃ x:VDepositData,cs=celL (sDepositData x)∧OkDepositData x:=by
 obtain ⟨xs,n,_,_,_,hxl,hat⟩:=DataW.trod_struct Tryz.underlying58 h
 have hx:xs.length=4:=hxl
 have h0:=hat 0 _ rfl
 rw [List.getElem?_eq_getElem (by omega)] at h0
 have c0:Tryz.prog.cellsOf 44=48:=by kernel_rfl
 replace h0:DataW.trod enc Tryz.prog w b0 sp held n 44 ((cs.drop 0).take (Tryz.prog.cellsOf 44))=some xs[0]:=h0
 rw [c0] at h0
 obtain ⟨f0,e0,k0⟩:=lst_by Tryz.underlying44 Tryz.underlying5 (by kernel_rfl) (by rw [List.length_take,List.length_drop,hsl];rfl) h0
 have h1:=hat 1 _ rfl
 rw [List.getElem?_eq_getElem (by omega)] at h1
 have c1:Tryz.prog.cellsOf 24=32:=by kernel_rfl
 replace h1:DataW.trod enc Tryz.prog w b0 sp held n 24 ((cs.drop 48).take (Tryz.prog.cellsOf 24))=some xs[1]:=h1
 rw [c1] at h1
 obtain ⟨f1,e1,k1⟩:=lst_by Tryz.underlying24 Tryz.underlying5 (by kernel_rfl) (by rw [List.length_take,List.length_drop,hsl];rfl) h1
 have h2:=hat 2 _ rfl
 rw [List.getElem?_eq_getElem (by omega)] at h2
 have c2:Tryz.prog.cellsOf 22=1:=by kernel_rfl
 replace h2:DataW.trod enc Tryz.prog w b0 sp held n 22 ((cs.drop 80).take (Tryz.prog.cellsOf 22))=some xs[2]:=h2
 rw [c2] at h2
 obtain ⟨f2,e2,_,w2⟩:=DataW.trod_int Tryz.underlying22 h2
 have k2:=bounds_u64 w2
 have h3:=hat 3 _ rfl
 rw [List.getElem?_eq_getElem (by omega)] at h3
 have c3:Tryz.prog.cellsOf 56=96:=by kernel_rfl
 replace h3:DataW.trod enc Tryz.prog w b0 sp held n 56 ((cs.drop 81).take (Tryz.prog.cellsOf 56))=some xs[3]:=h3
 rw [c3] at h3
 obtain ⟨f3,e3,k3⟩:=lst_by Tryz.underlying56 Tryz.underlying5 (by kernel_rfl) (by rw [List.length_take,List.length_drop,hsl];rfl) h3
 have el:cs.drop 0=(cs.drop 0).take 48++((cs.drop 48).take 32++((cs.drop 80).take 1++((cs.drop 81).take 96++([])))):=((cut_list cs 0 48).trans (congrArg _ ((cut_list cs 48 32).trans (congrArg _ ((cut_list cs 80 1).trans (congrArg _ ((cut_list cs 81 96).trans (congrArg _ (List.drop_eq_nil_of_le (by rw [hsl];exact Nat.le_refl _))))))))))
 rw [e0,e1,e2,e3] at el
 refine ⟨⟨f0,f1,f2,f3⟩,?_,k0,k1,⟨k2.1,Int.lt_of_le_of_lt k2.2 (by decide)⟩,k3⟩
 exact el
end
section
open Go.RowKit Go.ChangeShapes Go.WideShapes
set_option linter.unusedVariables false
set_option linter.unusedSimpArgs false
set_option maxRecDepth 100000 in
theorem opl_Deposit {H : Type} {enc : TypeId × Value → H} {w : World} {b0 fuel : Nat} {sp : Nat → Bool} {held : Bool} {cs : List Value} {y : DataW H × List MemPlace}
    (hsl:cs.length=401) (h:DataW.trod enc Tryz.prog w b0 sp held fuel 60 cs=some y):∃ x:VDeposit,cs=celL (sDeposit x)∧OkDeposit x:=by
 obtain ⟨xs,n,_,_,_,hxl,hat⟩:=DataW.trod_struct Tryz.underlying60 h
 have hx:xs.length=2:=hxl
 have h0:=hat 0 _ rfl
 rw [List.getElem?_eq_getElem (by omega)] at h0
 have c0:Tryz.prog.cellsOf 54=224:=by kernel_rfl
 replace h0:DataW.trod enc Tryz.prog w b0 sp held n 54 ((cs.drop 0).take (Tryz.prog.cellsOf 54))=some xs[0]:=h0
 rw [c0] at h0
 obtain ⟨f0,e0,k0⟩:=opl_Proof (by rw [List.length_take,List.length_drop,hsl];rfl) h0
 have h1:=hat 1 _ rfl
 rw [List.getElem?_eq_getElem (by omega)] at h1
 have c1:Tryz.prog.cellsOf 58=177:=by kernel_rfl
 replace h1:DataW.trod enc Tryz.prog w b0 sp held n 58 ((cs.drop 224).take (Tryz.prog.cellsOf 58))=some xs[1]:=h1
 rw [c1] at h1
 obtain ⟨f1,e1,k1⟩:=opl_DepositData (by rw [List.length_take,List.length_drop,hsl];rfl) h1
 have el:cs.drop 0=(cs.drop 0).take 224++((cs.drop 224).take 177++([])):=((cut_list cs 0 224).trans (congrArg _ ((cut_list cs 224 177).trans (congrArg _ (List.drop_eq_nil_of_le (by rw [hsl];exact Nat.le_refl _))))))
 rw [e0,e1] at el
 refine ⟨⟨f0,f1⟩,?_,k0,k1⟩
 exact el
theorem lst_Deposit {H : Type} {enc : TypeId × Value → H} {w : World} {b0 fuel : Nat} {held : Bool} {cs : List Value} {y : DataW H × List MemPlace}
    (h:DataW.trod enc Tryz.prog w b0 (fun _=>true) held fuel 50 cs=some y):∃ l:LV VDeposit,cs=[.slice l.a l.n l.c]∧Els w l.a l.n 401 (fun i=>celL (sDeposit (l.z i)))∧(l.a=none→l.n=0∧l.c=0)∧l.n≤9223372036854775807∧∀ j,j < l.n→OkDeposit (l.z j):=by
 have hct:Tryz.prog.cellsOf 60=401:=by kernel_rfl
 rcases DataW.trod_slice Tryz.underlying50 h with ⟨hcs,hx⟩ | ⟨x,l,c,el,rest,n,rfl,hcs,hx,hbs,hl,hm,hel,hat,hsp,_⟩
 ·exact ⟨⟨none,0,0,fun _=>oDeposit⟩,hcs,.inl rfl,fun _=>⟨rfl,rfl⟩,Nat.zero_le _,fun j hj=>absurd hj (Nat.not_lt_zero _)⟩
 ·have key:∀ i,i < l→∃ v:VDeposit,OkDeposit v∧∀ j,j < 401→w.cell? ((x.add (i*401)).add j)=(celL (sDeposit v))[j]?:=fun i hi=>by
   have h1:=hat i hi
   rw [List.getElem?_eq_getElem (by omega),Option.bind_eq_some_iff,hct] at h1
   obtain ⟨ci,hci,ht⟩:=h1
   obtain ⟨q1,q2,q3⟩:=World.cells?_some hci
   obtain ⟨v,ev,hv⟩:=opl_Deposit (by first | exact q2 | exact q1) ht
   refine ⟨v,hv,fun j hj=>?_⟩
   rw [←ev]
   exact q3 j hj
  unfold maxLen at hm
  have hz:∃ z:Nat→VDeposit,∀ i,i < l→OkDeposit (z i)∧∀ j,j < 401→w.cell? ((x.add (i*401)).add j)=(celL (sDeposit (z i)))[j]? :=
   ⟨fun i=>if h:i < l then Classical.choose (key i h) else oDeposit,fun i hi=>by simp only [dif_pos hi];exact Classical.choose_spec (key i hi)⟩
  obtain ⟨z,hz⟩:=hz
  refine ⟨⟨some x,l,c,z⟩,hcs,?_,fun h=>(by cases h),(by show l≤_;omega),fun j hj=>(hz j hj).1⟩
  by_cases h0:l=0
  ·exact .inl h0
  ·have hlen:∀ v:VDeposit,(celL (sDeposit v)).length=401:=fun v=>by rw [celL_len];rfl
   have h00:=(hz 0 (by omega)).2 0 (by omega)
   rw [List.getElem?_eq_getElem (by rw [hlen];omega),Nat.zero_mul] at h00
   obtain ⟨b,off,rfl⟩:∃ b off,x=⟨b,off,none⟩:=by
    obtain ⟨b,off,spot⟩:=x
    have hs:spot=none:=by
     have:=World.cell?_spot h00
     simpa [Addr.add] using this
    subst hs
    exact ⟨b,off,rfl⟩
   refine .inr ⟨b,off,rfl,?_,fun i hi j u hj=>?_⟩
   ·exact World.block_lt_of_cell? w _ (by rw [addr_add,addr_add] at h00;exact h00)
   ·have hlt:j < 401:=by have:=(List.getElem?_eq_some_iff.1 hj).1;rwa [hlen] at this
    have:=(hz i hi).2 j hlt
    rw [addr_add,addr_add,Nat.mul_comm,hj] at this
    exact this
theorem open_deps {H : Type} {enc : TypeId × Value → H} {W : World} {base : Nat} {held : Bool} {a : Option Addr} {len cap : Nat} {d : DataW H} {ps : List MemPlace} (h : DataW.Trod enc Tryz.prog W base (fun _ => true) held 50 (.slice a len cap) d ps) :
    ∃ z:Nat→VDeposit,Els W a len 401 (fun i=>celL (sDeposit (z i)))∧(∀ j,j < len→OkDeposit (z j))∧len≤9223372036854775807:=by
 obtain ⟨fuel,hf⟩:=h
 obtain ⟨l,hcs,he,_,hm,hok⟩:=lst_Deposit hf
 have hcs':[Value.slice a len cap]=[Value.slice l.a l.n l.c]:=hcs
 injection hcs' with h1 _
 injection h1 with h2 h3 h4
 subst h2 h3 h4
 exact ⟨l.z,he,hok,hm⟩
end
end Go.Proofs.YtfgmddnfhphdeaaGreatDoor
