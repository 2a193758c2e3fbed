/- A part. -/
import Derived.Test.YtdamhdnljnifcaaGreatDoorCoA
import Derived.Test.YtdamhdnljnifcaaGreatDoorQO
import Derived.Test.YtdamhdnljnifcaaGreatDoorQG
namespace Go.Proofs.YtdamhdnljnifcaaGreatDoor
open Go.RowKit
set_option linter.unusedVariables false
set_option linter.unusedSimpArgs false
section
open Go.RowKit
set_option linter.unusedVariables false
set_option linter.unusedSimpArgs false
attribute [local go_sem ↓] sv24_eq lv24_eq ix22_eq slr_eq bd27_eq bs22_eq bsP_eq bsI_eq lvCheckpoint_eq
end
section
open Go.RowKit
set_option linter.unusedVariables false
set_option linter.unusedSimpArgs false
attribute [local go_sem ↓] sv24_eq lv24_eq ix22_eq slr_eq bd27_eq bs22_eq
set_option maxRecDepth 20000 in
set_option maxHeartbeats 2000000 in
theorem rrootExit_any (x : VExit) (w : World) (hx : OkExit x) (hC : Rc w) :
    Calls Tryz.prog 38 #[.agg (cel (sExit x))] w fun e w'=>e=.returned (.tuple #[.agg (vs .u8 32 (hExit x)),.int .i64 0])∧Below w.heap.size w w':=by
 have z:=zero_root
 have zc:∀ W:World,(zeroValue 143).run Tryz.prog W=.ok (.agg (vs .u8 64 (fl7 [fun _=>0,fun _=>0]))) W:=(zero_of_info (n:=64) (by kernel_rfl)).1
 obtain ⟨y,ey⟩:∃ y,w.heap.size=y:=⟨_,rfl⟩
 obtain ⟨W1,hW1⟩:∃ W,w.alloc (.cells (cel (sExit x)) 69)=W:=⟨_,rfl⟩
 obtain ⟨W2,hW2⟩:∃ W,W1.alloc (.cells (vs .u8 32 fun _=>0) 24)=W:=⟨_,rfl⟩
 obtain ⟨V0,hV0⟩:∃ W,W2.alloc (.cells (vs .u8 64 (fl7 [fun _=>0,fun _=>0])) 143)=W:=⟨_,rfl⟩
 have z1:W1.heap.size=y+1:=by rw [←hW1,←ey];simp
 have z2:W2.heap.size=y+2:=by rw [←hW2];simp [z1]
 have z3:V0.heap.size=y+3:=by rw [←hV0];simp [z2]
 have hB0:Below w.heap.size w V0:=by rw [←hV0,←hW2,←hW1];exact (((Below.refl _ _).alloc (Nat.le_refl _) _).alloc (by simp) _).alloc (by simp;omega) _
 have r1:V0.heap[y]?=some (.cells (cel (sExit x)) 69):=by rw [←hV0];refine (heap_old (by omega)).trans ?_;rw [←hW2];refine (heap_old (by omega)).trans ?_;rw [←hW1];exact heap_new ey.symm
 have r2:V0.heap[y+1]?=some (.cells (vs .u8 32 fun _=>0) 24):=by rw [←hV0];refine (heap_old (by omega)).trans ?_;rw [←hW2];exact heap_new z1.symm
 have r3:V0.heap[y+2]?=some (.cells (vs .u8 (32*2) (fl7 [fun _=>0,fun _=>0])) 143):=by rw [←hV0];exact heap_new z2.symm
 have hry:∀ X,Below (y+2) V0 X→X.heap[y]?=some (.cells (cel (sExit x)) 69):=fun X h=>(h.block _ (by omega)).trans r1
 have hrr:∀ X,Below (y+2) V0 X→X.heap[y+1]?=some (.cells (vs .u8 32 fun _=>0) 24):=fun X h=>(h.block _ (by omega)).trans r2
 have hRc:∀ X,Below (y+2) V0 X→Rc X:=fun X h=>hC.below (hB0.trans (h.mono (by omega)))
 have hc0:∀ X a c,Below (y+2) V0 X→Bys X a 8 c (nmB x.f0)→Calls Tryz.prog 43 #[.slice a 8 c] X fun e w'=>e=.returned (.agg (vs .u8 32 (bR (nmB x.f0) 8)))∧Below X.heap.size X w':=fun X a c h hb=>chunk7 a 8 c (nmB x.f0) X (hRc X h) hb (by omega) (by omega) (fun j _=>nmB_bd _ j)
 have HL0:Hid (∀ X,Below (y+2) V0 X→X.cell? ⟨y,0,none⟩=some (.int .u64 x.f0)):=fun X h=>seg_nu (hry X h) 0 x.f0 rfl 0 rfl
 have hd0:∀ j,j < 32→0≤(bR (nmB x.f0) 8) j∧(bR (nmB x.f0) 8) j < 256:=fun j hj=>treeV_bd (pk_bd (fun j _=>nmB_bd _ j) _) _ j hj
 have hc1:∀ X a c,Below (y+2) V0 X→Bys X a 8 c (nmB x.f1)→Calls Tryz.prog 43 #[.slice a 8 c] X fun e w'=>e=.returned (.agg (vs .u8 32 (bR (nmB x.f1) 8)))∧Below X.heap.size X w':=fun X a c h hb=>chunk7 a 8 c (nmB x.f1) X (hRc X h) hb (by omega) (by omega) (fun j _=>nmB_bd _ j)
 have HL1:Hid (∀ X,Below (y+2) V0 X→X.cell? ⟨y,1,none⟩=some (.int .u64 x.f1)):=fun X h=>seg_nu (hry X h) 1 x.f1 rfl 1 rfl
 have hd1:∀ j,j < 32→0≤(bR (nmB x.f1) 8) j∧(bR (nmB x.f1) 8) j < 256:=fun j hj=>treeV_bd (pk_bd (fun j _=>nmB_bd _ j) _) _ j hj
 have eh:∀ j,j < 32→treeV (fl7 [bR (nmB x.f0) 8,bR (nmB x.f1) 8]) 2 (2:Nat) j=hExit x j:=fun j hj=>treeV_congr (fun q hq=>by
  unfold fl7
  have hq5:=Nat.mod_lt q (show 0 < 32 by omega)
  rcases (by omega:q / 32=0∨q / 32=1) with e | e
  ·first | (rw [e];done) | (rw [e];rfl)
  ·first | (rw [e];done) | (rw [e];rfl)
  ) _ j hj
 obtain ⟨C0,eC0⟩:∃ C,bR (nmB x.f0) 8=C:=⟨_,rfl⟩
 rw [eC0] at hd0 hc0
 simp only [eC0] at eh
 have HC0:=hid hc0
 obtain ⟨C1,eC1⟩:∃ C,bR (nmB x.f1) 8=C:=⟨_,rfl⟩
 rw [eC1] at hd1 hc1
 simp only [eC1] at eh
 have HC1:=hid hc1
 have hmu:∀ X,Below (y+2) V0 X→X.heap[y+2]?=some (.cells (vs .u8 (32*2) (fl7 [C0,C1])) 143)→Calls Tryz.prog 41 #[.slice (some ⟨y+2,0,none⟩) 2 2,.int .i64 2] X fun e w'=>e=.returned (.agg (vs .u8 32 (hExit x)))∧Below X.heap.size X w':=fun X h h2=>by
  have:=must7 (some ⟨y+2,0,none⟩) 2 2 (fl7 [C0,C1]) (2:Nat) X (hRc X h) (rts_row h2) (by omega) (fl7_bd (fun c hc=>by
   simp only [List.mem_cons,List.not_mem_nil,or_false] at hc
   rcases hc with rfl | rfl
   ·exact hd0
   ·exact hd1
   ) _) (by decide) (by decide) (by decide)
  rw [vs_congr (fun j hj=>eh j hj)] at this
  exact this
 obtain ⟨D,eD⟩:∃ D,hExit x=D:=⟨_,rfl⟩
 rw [eD] at hmu ⊢
 obtain ⟨u,eu⟩:∃ u,y+2=u:=⟨_,rfl⟩
 rw [eu] at hmu
 have HU:=hid eu
 have HMU:=hid hmu
 have HRR:=hid hrr
 have HB0w:=hid hB0
 have EY:=hid ey
 have Z3:=hid z3
 have HX:=hid hx
 have RV0:=hid r3
 have SV0:=hid (Below.refl (y+2) V0)
 rw [eu] at RV0
 clear hmu hrr hB0 z3 r1 r2 r3 hry hRc hx hC eh eD hd0 eC0 hc0 hd1 eC1 hc1
 go_enter Tryz.func38,Tryz.ntmps38
 go_upto_region 3 with fail
 clear hW1 hW2 hV0 z1 z2 ey z zc
 try rw [eu]
 clear eu
 have ld:=HL0.out _ SV0.out
 go_upto_region 4 with (first
  | (go_at_call 44; refine (rnumber7 x.f0 _ HX.out.1.1 HX.out.1.2).mono ?_; rintro e Y ⟨v, rfl, ho, hb⟩; obtain ⟨a, c, rfl, hr⟩ := own_at ho; clear ho; have SY := hid (SV0.out.trans (hb.mono (by have h1 := HU.out; have h2 := Z3.out; have h3 := SV0.out.size; omega))); have RY := hid ((hb.block _ (Array.getElem?_eq_some_iff.1 RV0.out).1).trans RV0.out); have CY := hid (HC0.out _ _ _ SY.out hr); clear hr hb)
  | (go_at_call 43; refine CY.out.mono ?_; rintro e X0 ⟨rfl, hb⟩; have sb := SY.out.trans (hb.mono (by have h1 := HU.out; have h2 := Z3.out; have h3 := SY.out.size; omega)); have rb := (hb.block _ (Array.getElem?_eq_some_iff.1 RY.out).1).trans RY.out; obtain ⟨sv, nr, nb⟩ := put7 (l := [fun _ => 0, fun _ => 0]) (n := 2) sb (by rw [← HU.out]; exact Nat.le_refl _) rb 0 C0 (by omega) rfl; have NR := hid nr; have NB := hid nb; clear nr nb sb rb hb))
 clear CY ld
 obtain ⟨V1,hV⟩:∃ V,X0.setCells u 0 (bl C0 32)=V:=⟨_,rfl⟩
 have RV1:Hid (V1.heap[u]?=some (.cells (vs .u8 (32*2) (fl7 [C0,fun _=>0])) 143)):=by rw [←hV];exact NR.out
 have SV1:Hid (Below (y+2) V0 V1):=by rw [←hV];exact NB.out
 rw [hV]
 clear hV NR NB sv
 have ld:=HL1.out _ SV1.out
 go_upto_region 5 with (first
  | (go_at_call 44; refine (rnumber7 x.f1 _ HX.out.2.1 HX.out.2.2).mono ?_; rintro e Y ⟨v, rfl, ho, hb⟩; obtain ⟨a, c, rfl, hr⟩ := own_at ho; clear ho; have SY := hid (SV1.out.trans (hb.mono (by have h1 := HU.out; have h2 := Z3.out; have h3 := SV1.out.size; omega))); have RY := hid ((hb.block _ (Array.getElem?_eq_some_iff.1 RV1.out).1).trans RV1.out); have CY := hid (HC1.out _ _ _ SY.out hr); clear hr hb)
  | (go_at_call 43; refine CY.out.mono ?_; rintro e X1 ⟨rfl, hb⟩; have sb := SY.out.trans (hb.mono (by have h1 := HU.out; have h2 := Z3.out; have h3 := SY.out.size; omega)); have rb := (hb.block _ (Array.getElem?_eq_some_iff.1 RY.out).1).trans RY.out; obtain ⟨sv, nr, nb⟩ := put7 (l := [C0, fun _ => 0]) (n := 2) sb (by rw [← HU.out]; exact Nat.le_refl _) rb 1 C1 (by omega) rfl; have NR := hid nr; have NB := hid nb; clear nr nb sb rb hb))
 clear CY ld
 obtain ⟨V2,hV⟩:∃ V,X1.setCells u 32 (bl C1 32)=V:=⟨_,rfl⟩
 have RV2:Hid (V2.heap[u]?=some (.cells (vs .u8 (32*2) (fl7 [C0,C1])) 143)):=by rw [←hV];exact NR.out
 have SV2:Hid (Below (y+2) V0 V2):=by rw [←hV];exact NB.out
 rw [hV]
 clear hV NR NB sv
 have HM:=hid (HMU.out _ (by have:=SV2.out;rw [HU.out] at this;exact this) RV2.out)
 go_wp2_with (go_at_call 41;refine HM.out.mono ?_;rintro e Y ⟨rfl,hb⟩;have sy:=SV2.out.trans (hb.mono (by have h1:=HU.out;have h2:=Z3.out;have h3:=SV2.out.size;omega));have rY:=HRR.out _ sy;have s1:=sv24_run rY D;have RY:=hid rY;have SY:=hid sy;clear rY sy hb)
 refine ret24s _ _ (y+1) _ 24 _ rfl rfl rfl rfl (setRow_at RY.out) ⟨rfl,?_⟩
 have e0:=EY.out
 exact below_row (HB0w.out.trans (SY.out.mono (by omega))) (by omega) _
end
section
open Go.RowKit
set_option linter.unusedVariables false
set_option linter.unusedSimpArgs false
attribute [local go_sem ↓] sv24_eq lv24_eq ix22_eq slr_eq bd27_eq bs22_eq mkI_eq ixI_eq ixP_eq bsP_eq bsI_eq lvFork_eq svFork_eq bdFork_eq lvCheckpoint_eq svCheckpoint_eq bdCheckpoint_eq lvValidator_eq svValidator_eq bdValidator_eq lvEth1_eq svEth1_eq bdEth1_eq lvHeader_eq svHeader_eq bdHeader_eq lvExit_eq svExit_eq bdExit_eq lvDepositData_eq svDepositData_eq bdDepositData_eq lvSignedExit_eq svSignedExit_eq bdSignedExit_eq
end
section
open Go.RowKit
set_option linter.unusedVariables false
set_option linter.unusedSimpArgs false
end
section
open Go.RowKit
set_option linter.unusedVariables false
set_option linter.unusedSimpArgs false
end
section
open Go.RowKit
set_option linter.unusedVariables false
set_option linter.unusedSimpArgs false
end
section
open Go.RowKit
set_option linter.unusedVariables false
set_option linter.unusedSimpArgs false
set_option maxRecDepth 100000 in
theorem opl_Exit {H : Type} {enc : TypeId × Value → H} {w : World} {b0 fuel : Nat} {sp : Nat → Bool} {held : Bool} {cs : List Value} {y : DataW H × List MemPlace}
    (hsl:cs.length=2) (h:DataW.trod enc Tryz.prog w b0 sp held fuel 69 cs=some y):∃ x:VExit,cs=celL (sExit x)∧OkExit x:=by
 obtain ⟨xs,n,_,_,_,hxl,hat⟩:=DataW.trod_struct Tryz.underlying69 h
 have hx:xs.length=2:=hxl
 have h0:=hat 0 _ rfl
 rw [List.getElem?_eq_getElem (by omega)] at h0
 have c0:Tryz.prog.cellsOf 22=1:=by kernel_rfl
 replace h0:DataW.trod enc Tryz.prog w b0 sp held n 22 ((cs.drop 0).take (Tryz.prog.cellsOf 22))=some xs[0]:=h0
 rw [c0] at h0
 obtain ⟨f0,e0,_,w0⟩:=DataW.trod_int Tryz.underlying22 h0
 have k0:=bounds_u64 w0
 have h1:=hat 1 _ rfl
 rw [List.getElem?_eq_getElem (by omega)] at h1
 have c1:Tryz.prog.cellsOf 22=1:=by kernel_rfl
 replace h1:DataW.trod enc Tryz.prog w b0 sp held n 22 ((cs.drop 1).take (Tryz.prog.cellsOf 22))=some xs[1]:=h1
 rw [c1] at h1
 obtain ⟨f1,e1,_,w1⟩:=DataW.trod_int Tryz.underlying22 h1
 have k1:=bounds_u64 w1
 have el:cs.drop 0=(cs.drop 0).take 1++((cs.drop 1).take 1++([])):=((cut_list cs 0 1).trans (congrArg _ ((cut_list cs 1 1).trans (congrArg _ (List.drop_eq_nil_of_le (by rw [hsl];exact Nat.le_refl _))))))
 rw [e0,e1] at el
 refine ⟨⟨f0,f1⟩,?_,⟨k0.1,Int.lt_of_le_of_lt k0.2 (by decide)⟩,⟨k1.1,Int.lt_of_le_of_lt k1.2 (by decide)⟩⟩
 exact el
end
section
open Go.RowKit
set_option linter.unusedVariables false
set_option linter.unusedSimpArgs false
end
section
open Go.RowKit
set_option linter.unusedVariables false
set_option linter.unusedSimpArgs false
set_option maxRecDepth 100000 in
theorem open_SignedExit {H : Type} {enc : TypeId × Value → H} {W w : World} {r : Reach} {base b0 : Nat} {sp : Nat → Bool} {held : Bool} {v : Value} {d : DataW H} {p : List MemPlace}
    (hv:Value.okWide Tryz.prog W r base 71 v) (h:DataW.Trod enc Tryz.prog w b0 sp held 71 v d p):∃ x:VSignedExit,v=.agg (cel (sSignedExit x))∧OkSignedExit x:=by
 obtain ⟨cs,rfl,hs,xs,n,hxl,hat⟩:=open_str Tryz.underlying71 hv h
 have hsz:cs.size=98:=hs.trans (by kernel_rfl)
 have hsl:cs.toList.length=98:=by rw [Array.length_toList];exact hsz
 have hx:xs.length=2:=hxl
 have h0:=hat 0 _ rfl
 rw [List.getElem?_eq_getElem (by omega)] at h0
 have c0:Tryz.prog.cellsOf 69=2:=by kernel_rfl
 replace h0:DataW.trod enc Tryz.prog w b0 sp held n 69 ((cs.toList.drop 0).take (Tryz.prog.cellsOf 69))=some xs[0]:=h0
 rw [c0] at h0
 obtain ⟨f0,e0,k0⟩:=opl_Exit (by rw [List.length_take,List.length_drop,hsl];rfl) h0
 have h1:=hat 1 _ rfl
 rw [List.getElem?_eq_getElem (by omega)] at h1
 have c1:Tryz.prog.cellsOf 56=96:=by kernel_rfl
 replace h1:DataW.trod enc Tryz.prog w b0 sp held n 56 ((cs.toList.drop 2).take (Tryz.prog.cellsOf 56))=some xs[1]:=h1
 rw [c1] at h1
 obtain ⟨f1,e1,k1⟩:=lst_by Tryz.underlying56 Tryz.underlying5 (by kernel_rfl) (by rw [List.length_take,List.length_drop,hsl];rfl) h1
 have el:cs.toList.drop 0=(cs.toList.drop 0).take 2++((cs.toList.drop 2).take 96++([])):=((cut_list cs.toList 0 2).trans (congrArg _ ((cut_list cs.toList 2 96).trans (congrArg _ (List.drop_eq_nil_of_le (by rw [hsl];exact Nat.le_refl _))))))
 rw [e0,e1] at el
 refine ⟨⟨f0,f1⟩,?_,k0,k1⟩
 congr 1
 apply Array.ext'
 exact el
end
end Go.Proofs.YtdamhdnljnifcaaGreatDoor
