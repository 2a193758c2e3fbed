/- A part. -/
import Derived.Test.YtfgmddnfhphdeaaGreatDoorCoA
import Derived.Test.YtfgmddnfhphdeaaGreatDoorQQ
import Derived.Test.YtfgmddnfhphdeaaGreatDoorQP
import Derived.Test.YtfgmddnfhphdeaaGreatDoorJnC
import Derived.Test.YtfgmddnfhphdeaaGreatDoorQN
import Derived.Test.YtfgmddnfhphdeaaGreatDoorSlI
import Derived.Test.YtfgmddnfhphdeaaGreatDoorQK
import Derived.Test.YtfgmddnfhphdeaaGreatDoorQT
import Derived.Test.YtfgmddnfhphdeaaGreatDoorMaC
namespace Go.Proofs.YtfgmddnfhphdeaaGreatDoor
open Go.RowKit
set_option linter.unusedVariables false
set_option linter.unusedSimpArgs false
section
open Go.RowKit
set_option linter.unusedVariables false
set_option linter.unusedSimpArgs false
attribute [local go_sem ↓] sv24_eq lv24_eq ix22_eq slr_eq bd27_eq bs22_eq sv8_eq mkI_eq ixI_eq ixP_eq bsP_eq lvCheckpoint_eq lvHeader_eq lvExit_eq
set_option maxRecDepth 20000 in
set_option maxHeartbeats 2000000 in
theorem rootDepositData_any (x : VDepositData) (w : World) (hx : OkDepositData x) (hS : Sh w) :
    Calls Tryz.prog 16 #[.agg (cel (sDepositData x))] w fun e w'=>e=.returned (.agg (vs .u8 32 (hDepositData x)))∧Below w.heap.size w w':=by
 have z:=zero_root
 obtain ⟨W1,hW1⟩:∃ W,w.alloc (.cells (cel (sDepositData x)) 58)=W:=⟨_,rfl⟩
 obtain ⟨W0,hW0⟩:∃ W,W1.alloc (.cells (vs .u8 32 fun _=>0) 24)=W:=⟨_,rfl⟩
 have hB1:Below w.heap.size w W1:=by rw [←hW1];exact (Below.refl _ _).alloc (Nat.le_refl _) _
 have z1:W1.heap.size=w.heap.size+1:=by rw [←hW1];simp
 have z0:W0.heap.size=w.heap.size+2:=by rw [←hW0];simp [z1]
 have hB0:Below w.heap.size w W0:=by rw [←hW0];exact hB1.alloc (by omega) _
 have r1:W1.heap[w.heap.size]?=some (.cells (cel (sDepositData x)) 58):=by rw [←hW1];exact heap_new rfl
 have r0:W0.heap[w.heap.size]?=some (.cells (cel (sDepositData x)) 58):=by rw [←hW0];exact (heap_old (by omega)).trans r1
 have rr:W0.heap[w.heap.size+1]?=some (.cells (vs .u8 32 fun _=>0) 24):=by rw [←hW0];exact heap_new (by omega)
 obtain ⟨y,ey⟩:∃ y,w.heap.size=y:=⟨_,rfl⟩
 have hy1:y+1≤W0.heap.size:=by omega
 have hry:∀ X,Below (y+1) W0 X→X.heap[y]?=some (.cells (cel (sDepositData x)) 58):=fun X h=>by rw [←ey];exact (h.block _ (by omega)).trans r0
 have hrr:∀ X,Below W0.heap.size W0 X→X.heap[y+1]?=some (.cells (vs .u8 32 fun _=>0) 24):=fun X h=>by rw [←ey];exact (h.block _ (by omega)).trans rr
 have hSh:∀ X,Below W0.heap.size W0 X→Sh X:=fun X h=>(hS.below hB0).below h
 have hc0:∀ X,Below W0.heap.size W0 X→Calls Tryz.prog 47 #[.slice (some ⟨y,0,none⟩) 48 48] X fun e w'=>e=.returned (.agg (vs .u8 32 (bR x.f0 48)))∧Below X.heap.size X w':=fun X h=>broot_any _ 48 48 x.f0 X (seg_bys (hry X (h.mono hy1)) 0 48 x.f0 rfl 0 rfl (by omega)) (by omega) hx.1 (hSh X h)
 have hd0:∀ j,j < 32→0≤(bR x.f0 48) j∧(bR x.f0 48) j < 256:=fun j hj=>treeV_bd (pk_bd hx.1 _) _ j hj
 have hc1:∀ X,Below W0.heap.size W0 X→Calls Tryz.prog 47 #[.slice (some ⟨y,48,none⟩) 32 32] X fun e w'=>e=.returned (.agg (vs .u8 32 (bR x.f1 32)))∧Below X.heap.size X w':=fun X h=>broot_any _ 32 32 x.f1 X (seg_bys (hry X (h.mono hy1)) 1 32 x.f1 rfl 48 rfl (by omega)) (by omega) hx.2.1 (hSh X h)
 have hd1:∀ j,j < 32→0≤(bR x.f1 32) j∧(bR x.f1 32) j < 256:=fun j hj=>treeV_bd (pk_bd hx.2.1 _) _ j hj
 have hc2:∀ X,Below W0.heap.size W0 X→Calls Tryz.prog 48 #[.int .u64 x.f2] X fun e w'=>e=.returned (.agg (vs .u8 32 (bR (nmB x.f2) 8)))∧Below X.heap.size X w':=fun X h=>nroot7 x.f2 X hx.2.2.1.1 hx.2.2.1.2 (hSh X h)
 have hd2:∀ j,j < 32→0≤(bR (nmB x.f2) 8) j∧(bR (nmB x.f2) 8) j < 256:=fun j hj=>treeV_bd (pk_bd (fun j _=>nmB_bd _ j) _) _ j hj
 have HL2:Hid (∀ X,Below (y+1) W0 X→X.cell? ⟨y,80,none⟩=some (.int .u64 x.f2)):=fun X h=>seg_nu (hry X h) 2 x.f2 rfl 80 rfl
 have hc3:∀ X,Below W0.heap.size W0 X→Calls Tryz.prog 47 #[.slice (some ⟨y,81,none⟩) 96 96] X fun e w'=>e=.returned (.agg (vs .u8 32 (bR x.f3 96)))∧Below X.heap.size X w':=fun X h=>broot_any _ 96 96 x.f3 X (seg_bys (hry X (h.mono hy1)) 3 96 x.f3 rfl 81 rfl (by omega)) (by omega) hx.2.2.2 (hSh X h)
 have hd3:∀ j,j < 32→0≤(bR x.f3 96) j∧(bR x.f3 96) j < 256:=fun j hj=>treeV_bd (pk_bd hx.2.2.2 _) _ j hj
 have eh:hDepositData x=treeV (fl7 [bR x.f0 48,bR x.f1 32,bR (nmB x.f2) 8,bR x.f3 96]) 4 (4:Nat):=rfl
 obtain ⟨C0,eC0⟩:∃ C,bR x.f0 48=C:=⟨_,rfl⟩
 rw [eC0] at hc0 hd0 eh
 obtain ⟨C1,eC1⟩:∃ C,bR x.f1 32=C:=⟨_,rfl⟩
 rw [eC1] at hc1 hd1 eh
 obtain ⟨C2,eC2⟩:∃ C,bR (nmB x.f2) 8=C:=⟨_,rfl⟩
 rw [eC2] at hc2 hd2 eh
 obtain ⟨C3,eC3⟩:∃ C,bR x.f3 96=C:=⟨_,rfl⟩
 rw [eC3] at hc3 hd3 eh
 have hro:∀ X g,Below W0.heap.size W0 X→X.heap[g]?=some (.cells (vs .u8 128 (fl7 [C0,C1,C2,C3])) 24)→Calls Tryz.prog 46 #[.slice (some ⟨g,0,none⟩) 4 4] X fun e w'=>e=.returned (.agg (vs .u8 32 (hDepositData x)))∧Below X.heap.size X w':=fun X g h h2=>by
  rw [eh]
  exact rootof_any (some ⟨g,0,none⟩) 4 4 (fl7 [C0,C1,C2,C3]) X (rts_row (n:=4) h2) (by omega) (fl7_bd (fun c hc=>by
   simp only [List.mem_cons,List.not_mem_nil,or_false] at hc
   rcases hc with rfl | rfl | rfl | rfl
   ·exact hd0
   ·exact hd1
   ·exact hd2
   ·exact hd3
   ) _) (hSh X h)
 obtain ⟨D,eD⟩:∃ D,hDepositData x=D:=⟨_,rfl⟩
 rw [eD] at hro ⊢
 have HC0:=hid hc0
 have HC1:=hid hc1
 have HC2:=hid hc2
 have HC3:=hid hc3
 have HRO:=hid hro
 have HRR:=hid hrr
 have hdr:Below W0.heap.size W0 W0.drew:=(Below.refl _ _).drew
 have S0:=hid hdr
 have HB0w:=hid hB0
 have EY:=hid ey
 have Z0:=hid z0
 have HY1:=hid hy1
 clear hy1 hdr hB0 r0 r1 rr hry hrr hx hro hSh hS hB1 hc0 hd0 eC0 hc1 hd1 eC1 hc2 hd2 eC2 hc3 hd3 eC3 eh eD
 go_enter Tryz.func16,Tryz.ntmps16
 go_upto_region 1 with fail
 clear hW0 hW1 ey z0 z1 z
 refine wp_region_noPanic ?_
 refine wp_region_held_drew (S:=fun X=>Below (y+1) W0 X) (by kernel_rfl) (S0.out.mono HY1.out) (fun hHeld=>?_)
 refine tk 0 (v:=?v61) ?y61 hHeld ?r61
 case y61=>intro w hSw;go_simp;try with_reducible rfl
 refine tk 1 (v:=?v62) ?y62 hHeld ?r62
 case y62=>intro w hSw;go_simp;try with_reducible rfl
 refine tk 3 (v:=?v63) ?y63 hHeld ?r63
 case y63=>intro w hSw;go_simp;try with_reducible rfl
 refine tk 4 (v:=?v64) ?y64 hHeld ?r64
 case y64=>intro w hSw;go_simp;try with_reducible rfl
 refine tk 6 (v:=?v65) ?y65 hHeld ?r65
 case y65=>intro w hSw;go_simp;try with_reducible rfl
 refine tk 7 (v:=?v66) ?y66 hHeld ?r66
 case y66=>intro w hSw;have ld:=HL2.out _ hSw;go_simp;try with_reducible rfl
 refine tk 9 (v:=?v67) ?y67 hHeld ?r67
 case y67=>intro w hSw;go_simp;try with_reducible rfl
 refine tk 10 (v:=?v68) ?y68 hHeld ?r68
 case y68=>intro w hSw;go_simp;try with_reducible rfl
 try simp only [Act.put,z_1,z_2,z_3,z_4,z_5,z_6,z_7]
 refine wpAnyH_ready (rs:=[2]) (by kernel_rfl) (by simp) ?_
 refine AllReadyH.cons rfl (fun K hK=>?_) AllReadyH.nil
 go_simp
 refine (HC0.out _ S0.out).mono ?_
 rintro e X1 ⟨rfl,hb1⟩
 dsimp only
 have S1:=hid (S0.out.trans (hb1.mono S0.out.size))
 clear hb1
 refine hK.out _ _ (S1.out.mono HY1.out) (fun hHeld=>?_)
 clear hK K
 try simp only [Act.put,z_1,z_2,z_3,z_4,z_5,z_6,z_7]
 refine wpAnyH_ready (rs:=[5]) (by kernel_rfl) (by simp) ?_
 refine AllReadyH.cons rfl (fun K hK=>?_) AllReadyH.nil
 go_simp
 refine (HC1.out _ S1.out).mono ?_
 rintro e X2 ⟨rfl,hb2⟩
 dsimp only
 have S2:=hid (S1.out.trans (hb2.mono S1.out.size))
 clear hb2
 refine hK.out _ _ (S2.out.mono HY1.out) (fun hHeld=>?_)
 clear hK K
 try simp only [Act.put,z_1,z_2,z_3,z_4,z_5,z_6,z_7]
 refine wpAnyH_ready (rs:=[8]) (by kernel_rfl) (by simp) ?_
 refine AllReadyH.cons rfl (fun K hK=>?_) AllReadyH.nil
 go_simp
 refine (HC2.out _ S2.out).mono ?_
 rintro e X3 ⟨rfl,hb3⟩
 dsimp only
 have S3:=hid (S2.out.trans (hb3.mono S2.out.size))
 clear hb3
 refine hK.out _ _ (S3.out.mono HY1.out) (fun hHeld=>?_)
 clear hK K
 try simp only [Act.put,z_1,z_2,z_3,z_4,z_5,z_6,z_7]
 refine wpAnyH_ready (rs:=[11]) (by kernel_rfl) (by simp) ?_
 refine AllReadyH.cons rfl (fun K hK=>?_) AllReadyH.nil
 go_simp
 refine (HC3.out _ S3.out).mono ?_
 rintro e X4 ⟨rfl,hb4⟩
 dsimp only
 have S4:=hid (S3.out.trans (hb4.mono S3.out.size))
 clear hb4
 refine hK.out _ _ (S4.out.mono HY1.out) (fun hHeld=>?_)
 clear hK K
 try simp only [Act.put,z_1,z_2,z_3,z_4,z_5,z_6,z_7]
 have bs:=bs22_4 X4 C0 C1 C2 C3
 have hBn:Below X4.heap.size X4 (X4.alloc (.cells (vs .u8 128 (fl7 [C0,C1,C2,C3])) 24)):=(Below.refl _ _).alloc (Nat.le_refl _) _
 have HBN:=hid (S4.out.trans (hBn.mono S4.out.size))
 have HLA:=hid (HRO.out (X4.alloc (.cells (vs .u8 128 (fl7 [C0,C1,C2,C3])) 24)) X4.heap.size HBN.out (heap_new rfl))
 clear hBn
 refine wpAnyH_ready (rs:=[12]) (by kernel_rfl) (by simp) ?_
 refine AllReadyH.cons rfl (fun K hK=>?_) AllReadyH.nil
 go_simp
 refine hK.out _ _ (HBN.out.mono HY1.out) (fun hHeld=>?_)
 clear hK K bs
 try simp only [Act.put,z_1,z_2,z_3,z_4,z_5,z_6,z_7]
 refine wpAnyH_ready (rs:=[13]) (by kernel_rfl) (by simp) ?_
 refine AllReadyH.cons rfl (fun K hK=>?_) AllReadyH.nil
 go_simp
 refine (HLA.out).mono ?_
 rintro e Y ⟨rfl,hbY⟩
 dsimp only
 have HY:=hid (HBN.out.trans (hbY.mono HBN.out.size))
 clear hbY
 refine hK.out _ _ (HY.out.mono HY1.out) (fun hHeld=>?_)
 clear hK K
 try simp only [Act.put,z_1,z_2,z_3,z_4,z_5,z_6,z_7]
 have rY:=HRR.out _ HY.out
 have s1:=sv24_run rY D
 have RY:=hid rY
 clear rY
 refine wpAnyH_ready (rs:=[14]) (by kernel_rfl) (by simp) ?_
 refine AllReadyH.cons rfl (fun K hK=>?_) AllReadyH.nil
 go_simp
 refine hK.out _ _ (below_row (HY.out.mono HY1.out) (Nat.le_refl _) _) (fun hHeld=>?_)
 clear hK K s1
 try simp only [Act.put,z_1,z_2,z_3,z_4,z_5,z_6,z_7]
 refine wpAnyH_done (by kernel_rfl) ?_ _
 refine NoPanic.normal ?_
 go_wp2
 refine ret24 _ (y+1) _ 24 rfl rfl rfl (setRow_at RY.out) ⟨rfl,?_⟩
 have e0:=EY.out
 have e1:=Z0.out
 exact below_row (HB0w.out.trans (HY.out.mono (by omega))) (by omega) _
end
section
open Go.RowKit
set_option linter.unusedVariables false
set_option linter.unusedSimpArgs false
set_option maxRecDepth 20000
theorem tkS_sim {x X:VState} (h:SimF x X) (d:VDepositData) (f:Nat→Int) (n:Nat):SimF (tkS x d f n) (tkS X d f n):=by
 unfold tkS dpO
 rw [h.l11,h.z11,h.z12]
 split
 ·exact bal_sim h _ _
 ·split
  ·exact en_sim h d none none none none none 0 0 0 0 0
  ·exact h
theorem dp_root {w:World} {g:Nat} {x:VState} {t:TypeId} (h:w.heap[g]?=some (.cells (cel (sState x)) t)) (p:Nat) (hp:p < 32):w.cell? ⟨g,654+p,none⟩=some (.int .u8 (x.f8.f0 p)):=by
 have hb:Bys w (some ⟨g,654,none⟩) 32 32 x.f8.f0:=seg_bys h 14 32 x.f8.f0 (by kernel_rfl) 654 (by kernel_rfl) (by omega)
 obtain ⟨b,off,e,_,_,hc⟩:=bys_at hb (by omega)
 cases e
 exact hc p hp
theorem dp_prf {w:World} {g:Nat} {d:VDeposit} {t:TypeId} (h:w.heap[g]?=some (.cells (cel (sDeposit d)) t)):Rts w (some ⟨g,0,none⟩) 7 7 d.f0.f0:=by
 refine .inr (.inr ⟨g,0,rfl,Nat.le_refl _,some_ltK h,fun j hj=>?_⟩)
 have:=byte_at [] (sDepositData d.f1) 224 d.f0.f0 (t:=t) h j (by omega)
 rw [show slen []+j=j from Nat.zero_add j] at this
 rw [Nat.zero_add]
 exact this
theorem dp_dat {w:World} {g:Nat} {d:VDeposit} {t:TypeId} (h:w.heap[g]?=some (.cells (cel (sDeposit d)) t)):(lvDd ⟨g,224,none⟩).run Tryz.prog w=.ok (.agg (cel (sDepositData d.f1))) w :=
 lvDepositData_mid h 224 rfl rfl
attribute [local go_sem ↓] lvState_eq svState_eq bdState_eq lvDd_eq lv24_eq sv24_eq
set_option maxHeartbeats 8000000 in
theorem jdep_prog (x : VState) (d : VDeposit) (a : Option Addr) (n cap : Nat) (f : Nat → Int) (w : World) (hx : OkState x) (hw : InW w x) (hn : NilW x) (hl : Lns x) (hd : OkDeposit d) (hr : Rts w a n cap f) (hnn : n ≤ 9223372036854775807) (hS : Sh w) :
    Calls Tryz.prog 7 #[.agg (cel (sState x)),.agg (cel (sDeposit d)),.slice a n cap] w (JdA x d f n w):=by
 obtain ⟨W0,hW0⟩:∃ W,((w.alloc (.cells (cel (sState x)) 49)).alloc (.cells (cel (sDeposit d)) 60)).alloc (.cells (cel (sState oState)) 49)=W:=⟨_,rfl⟩
 have r0:W0.heap[w.heap.size]?=some (.cells (cel (sState x)) 49):=by rw [←hW0];exact (heap_old (by simp<;>omega)).trans ((heap_old (by simp)).trans (heap_new rfl))
 have r1:W0.heap[w.heap.size+1]?=some (.cells (cel (sDeposit d)) 60):=by rw [←hW0];exact (heap_old (by simp)).trans (heap_new (by simp))
 have r2:W0.heap[w.heap.size+2]?=some (.cells (cel (sState oState)) 49):=by rw [←hW0];exact heap_new (by simp)
 have hB0:Up w W0:=by rw [←hW0];exact (((Below.refl _ _).alloc (Nat.le_refl _) _).alloc (by simp) _).alloc (by simp<;>omega) _
 have hri:=right_any x W0 hx.r' (hw.below hB0).r' hl
 have lx:=lvState_run r0
 have z:=zeroState
 have bz:=bdState_0
 have HB:=hid hB0
 have HW:=hid hW0
 have R0:=hid r0
 have R1:=hid r1
 have R2:=hid r2
 unfold JdA
 cases hR:rightB x
 ·rw [hR] at hri
  have HRI:=hid hri
  have eP:jdP x d=1:=by unfold jdP;rw [hR];rfl
  have eK:jdK x d=0:=by unfold jdK;rw [eP];rfl
  have eE:jdE x d f n=1:=by unfold jdE;rw [eP];rfl
  have eS:jdS x d f n=oState:=by unfold jdS;rw [eE];rfl
  rw [eK,eE,eS]
  clear hri hB0 hW0 r0 r1 r2 hx hw hn hl hd hr hnn hS eP eK eE eS
  go_enter Tryz.func7,Tryz.ntmps7
  go_upto_region 1 with fail
  rw [HW.out]
  clear HW z
  go_wp2_with (go_at_call 14;refine HRI.out.mono ?_;rintro e' w1 ⟨rfl,hu⟩;have s1:=svState_run (upR hu R2.out) oState)
  exact retState3 6 7 8 (w.heap.size+2) oState 49 (.slice none 0 0) (.int .i64 1) rfl rfl rfl rfl rfl (setRow_at (upR hu R2.out)) ⟨oState,none,0,rfl,resO _ _,.inl ⟨rfl,rfl,rfl⟩,.inl rfl,below_row (upT HB.out hu) (by omega) _⟩
 ·rw [hR] at hri
  have HRI:=hid hri
  have hf10:x.f10=((x.f10.toNat:Nat):Int):=(Int.toNat_of_nonneg hx.o10.1).symm
  have hrd:=fun (W:World) (h:Up w W)=>rootDepositData_any d.f1 W hd.2 (hS.below h)
  have hho:∀ W,Up W0 W→Calls Tryz.prog 15 #[.agg (vs .u8 32 (hDepositData d.f1)),.slice (some ⟨w.heap.size+1,0,none⟩) 7 7,.int .u64 x.f10,.agg (vs .u8 32 x.f8.f0)] W fun e w'=>e=.returned (.bool (holdsV (hDepositData d.f1) d.f0.f0 7 x.f10.toNat x.f8.f0))∧Below W.heap.size W w':=fun W h=>by
   have:=holds_any (hDepositData d.f1) x.f8.f0 d.f0.f0 (some ⟨w.heap.size+1,0,none⟩) 7 7 x.f10.toNat W (hS.below (upT hB0 h)) (fun j hj=>hDepositData_bd hd.2 j hj) (dp_prf (upR h r1)) (fun j hj=>hd.1 j (by omega)) (by have:=hx.o10.2;omega) (by omega)
   rw [←hf10] at this
   exact this
  have hcp:∀ W:World,Up w W→Calls Tryz.prog 17 #[.agg (cel (sState x))] W fun e w'=>∃ X:VState,e=.returned (.agg (cel (sState X)))∧SimF x X∧CpdF W.heap.size w' X∧Below W.heap.size W w':=fun W h=>copyS_any x W (hw.below h) hn (small_rch hR)
  have hld:∀ W,Up W0 W→(lvDd ⟨w.heap.size+1,224,none⟩).run Tryz.prog W=.ok (.agg (cel (sDepositData d.f1))) W:=fun W h=>dp_dat (upR h r1)
  have hlr:∀ W,Up W0 W→(lv24 ⟨w.heap.size,654,none⟩).run Tryz.prog W=.ok (.agg (vs .u8 32 x.f8.f0)) W:=fun W h=>lv24_mid fun j hj=>dp_root (upR h r0) j hj
  have hc10:∀ W,Up W0 W→W.cell? ⟨w.heap.size,720,none⟩=some (.int .u64 x.f10):=fun W h=>cS10 (upR h r0)
  have eK:jdK x d=if holdsV (hDepositData d.f1) d.f0.f0 7 x.f10.toNat x.f8.f0=true then tkK x d.f1 else 0:=by
   unfold jdK jdP
   rw [hR,if_pos rfl]
   by_cases h:holdsV (hDepositData d.f1) d.f0.f0 7 x.f10.toNat x.f8.f0=true
   ·rw [if_pos h,if_pos rfl,if_pos h]
   ·rw [if_neg h,if_neg (by omega),if_neg h]
  have eE:jdE x d f n=if holdsV (hDepositData d.f1) d.f0.f0 7 x.f10.toNat x.f8.f0=true then (if tkE x d.f1 f n=0 then (if rightB (tkS (upS x) d.f1 f n)=true then 0 else 2) else tkE x d.f1 f n) else 34:=by
   unfold jdE jdP
   rw [hR,if_pos rfl]
   by_cases h:holdsV (hDepositData d.f1) d.f0.f0 7 x.f10.toNat x.f8.f0=true
   ·rw [if_pos h,if_pos rfl,if_pos h]
   ·rw [if_neg h,if_neg (by omega),if_neg h]
  have eS:jdS x d f n=if jdE x d f n=0 then tkS (upS x) d.f1 f n else oState:=rfl
  obtain ⟨KK,eKK⟩:∃ k,jdK x d=k:=⟨_,rfl⟩
  obtain ⟨EE,eEE⟩:∃ k,jdE x d f n=k:=⟨_,rfl⟩
  obtain ⟨SS,eSS⟩:∃ k,jdS x d f n=k:=⟨_,rfl⟩
  rw [eKK] at eK
  rw [eEE] at eE eS
  rw [eSS] at eS
  rw [eKK,eEE,eSS]
  obtain ⟨HV,eHV⟩:∃ k,holdsV (hDepositData d.f1) d.f0.f0 7 x.f10.toNat x.f8.f0=k:=⟨_,rfl⟩
  rw [eHV] at eK eE
  simp only [eHV] at hho
  obtain ⟨HR,eHR⟩:∃ k,hDepositData d.f1=k:=⟨_,rfl⟩
  rw [eHR] at hrd hho
  have HRD:=hid hrd
  have HHO:=hid hho
  have HCP:=hid hcp
  have HLD0:=hid hld
  have HLR0:=hid hlr
  have HC100:=hid hc10
  have HX:=hid hx
  have HRT:=hid hR
  have HRR:=hid hr
  have HSH:=hid hS
  have HDD:=hid hd.2
  clear eKK eEE eSS hri hrd hho hcp hld hlr hc10 hB0 hW0 r0 r1 r2 hx hw hn hl hd hr hS hf10 eHV eHR hR
  go_enter Tryz.func7,Tryz.ntmps7
  go_upto_region 1 with fail
  rw [HW.out]
  clear HW z
  go_upto_region 3 with (go_at_call 14;refine HRI.out.mono ?_;rintro e' w1 ⟨rfl,hb1⟩)
  have HU1:=hid hb1
  have HLD:=hid (fun W (h:Up w1 W)=>HLD0.out W (upT HU1.out h))
  have HLR:=hid (fun W (h:Up w1 W)=>HLR0.out W (upT HU1.out h))
  have HC10:=hid (fun W (h:Up w1 W)=>HC100.out W (upT HU1.out h))
  replace HRD:=hid (fun W (h:Up w1 W)=>HRD.out W (upT HB.out (upT HU1.out h)))
  replace HHO:=hid (fun W (h:Up w1 W)=>HHO.out W (upT HU1.out h))
  clear hb1 lx HRI HLD0 HLR0 HC100
  refine wp_region_noPanic ?_
  refine wp_region_held_drew (S:=fun W=>Up w1 W) (by kernel_rfl) ((Below.refl _ _).drew) (fun hHeld=>?_)
  generalize w1.drew=wd at hHeld ⊢
  refine tk 0 (v:=?v401) ?y401 hHeld ?r401
  case y401=>intro w hSw;go_simp;try with_reducible rfl
  refine tk 1 (v:=?v402) ?y402 hHeld ?r402
  case y402=>intro w hSw;have ld0:=HLD.out w hSw;go_simp;try with_reducible rfl
  refine tk 3 (v:=?v403) ?y403 hHeld ?r403
  case y403=>intro w hSw;go_simp;try with_reducible rfl
  refine tk 4 (v:=?v404) ?y404 hHeld ?r404
  case y404=>intro w hSw;go_simp;try with_reducible rfl
  refine tk 5 (v:=?v405) ?y405 hHeld ?r405
  case y405=>intro w hSw;go_simp;try with_reducible rfl
  refine tk 6 (v:=?v406) ?y406 hHeld ?r406
  case y406=>intro w hSw;have ld0:=HC10.out w hSw;go_simp;try with_reducible rfl
  refine tk 7 (v:=?v407) ?y407 hHeld ?r407
  case y407=>intro w hSw;go_simp;try with_reducible rfl
  refine tk 8 (v:=?v408) ?y408 hHeld ?r408
  case y408=>intro w hSw;go_simp;try with_reducible rfl
  refine tk 9 (v:=?v409) ?y409 hHeld ?r409
  case y409=>intro w hSw;have ld0:=HLR.out w hSw;go_simp;try with_reducible rfl
  try simp only [Act.put,z_1,z_2,z_3,z_4,z_5,z_6,z_7]
  refine rd1 2 (fun K hK=>?_)
  go_simp
  refine (HRD.out _ hHeld).mono ?_
  rintro e' x1 ⟨rfl,hd1⟩
  dsimp only
  have hc1:=upT hHeld hd1
  refine hK.out _ _ hc1 (fun hHeld=>?_)
  clear hK K
  try simp only [Act.put,z_1,z_2,z_3,z_4,z_5,z_6,z_7]
  refine rd1 10 (fun K hK=>?_)
  go_simp
  refine (HHO.out _ hc1).mono ?_
  rintro e' x2 ⟨rfl,hd2⟩
  dsimp only
  have hc2:=upT hc1 hd2
  refine hK.out _ _ hc2 (fun hHeld=>?_)
  clear hK K
  try simp only [Act.put,z_1,z_2,z_3,z_4,z_5,z_6,z_7]
  refine tk 11 (v:=?v410) ?y410 hHeld ?r410
  case y410=>intro w hSw;go_simp;try with_reducible rfl
  try simp only [Act.put,z_1,z_2,z_3,z_4,z_5,z_6,z_7]
  refine wpAnyH_done (by kernel_rfl) ?_ _
  refine NoPanic.normal ?_
  have HU2:=hid hc2
  clear hd1 hc1 hd2 hc2 hHeld
  cases HV
  ·rw [if_neg (by simp)] at eK eE
   obtain rfl:KK=0:=eK
   obtain rfl:EE=34:=eE
   rw [if_neg (by omega)] at eS
   obtain rfl:SS=oState:=eS
   have HU:=hid (upT HU1.out HU2.out)
   have s2:=svState_run (upR HU.out R2.out) oState
   clear HRD HHO HCP HLD HLR HC10 HX HRT HRR HSH HDD HU1 HU2
   go_wp2
   exact retState3 6 7 8 (w.heap.size+2) oState 49 (.slice none 0 0) (.int .i64 34) rfl rfl rfl rfl rfl (setRow_at (upR HU.out R2.out)) ⟨oState,none,0,rfl,resO _ _,.inl ⟨rfl,rfl,rfl⟩,.inl rfl,below_row (upT HB.out HU.out) (by omega) _⟩
  ·rw [if_pos rfl] at eK eE
   have HU:=hid (upT HU1.out HU2.out)
   have lx2:=lvState_run (upR HU.out R0.out)
   have HCQ:=hid (HCP.out x2 (upT HB.out HU.out))
   have Q0:=hid (upR HU.out R0.out)
   have Q1:=hid (upR HU.out R1.out)
   have Q2:=hid (upR HU.out R2.out)
   have HUX:=hid (upT HB.out HU.out)
   clear HRD HHO HCP HLD HLR HC10 HU1 HU2 R0 R1 R2 HU
   go_upto_region 6 with (go_at_call 17;refine HCQ.out.mono ?_;rintro e' w3 ⟨X,rfl,hsim,hcd,hb3⟩;have sv:=svState_run (upR hb3 Q0.out) X;have HSM:=hid hsim;have HCD:=hid hcd;have HB3:=hid hb3;clear hsim hcd hb3)
   obtain ⟨hbf,hcc⟩:=BF.own (Nat.le_refl w.heap.size) HUX.out HB3.out (upR HB3.out Q0.out) HCD.out (by rw [cel_size,cel_size];rfl)
   have hbk:BK x2 w.heap.size (w3.setRow w.heap.size (cel (sState X))) X:=⟨(Kept.ofBelow HB3.out).setRow _,hbf.row,hcc⟩
   obtain ⟨V0,hV⟩:∃ V,w3.setRow w.heap.size (cel (sState X))=V:=⟨_,rfl⟩
   rw [hV] at hbk ⊢
   have hbu:=hbk.setY (Y':=upS X) 720 (.int .u64 (w64 (X.f10+1))) (st_10 X _) rfl rfl rfl rfl rfl rfl rfl
   have c10:=cS10 hbk.row
   have fz:=row_frozen hbk.row 720
   have kw:IntKind.u64.wrap (X.f10+1)=w64 (X.f10+1):=rfl
   have HBU:=hid hbu
   clear hV hbf hcc sv HCD HB3 HCQ hbk lx2 hbu
   go_upto_region 7 with fail
   obtain ⟨V1,hV1⟩:∃ V,V0.setCell ⟨w.heap.size,720,none⟩ (.int .u64 (w64 (X.f10+1)))=V:=⟨_,rfl⟩
   rw [hV1] at HBU ⊢
   have hbu:=HBU.out
   have HU3:=hid (HUX.out.trans (hbu.kep.below (B:=w.heap.size) (Nat.le_refl _) HUX.out.size))
   have hxX:OkState X:=okF_sim HSM.out HX.out
   have hsu:=upS_sim HSM.out
   have hlim:Lim (upS X):=by
    have:=lim_right HRT.out
    unfold Lim at this ⊢
    show X.f11.n≤_∧X.f12.n≤_∧X.f15.n≤_∧X.f16.n≤_∧X.f21.n≤_
    rw [HSM.out.l11,HSM.out.l12,HSM.out.l15,HSM.out.l16,HSM.out.l21]
    exact this
   have hl12:(upS X).f12.n=(upS X).f11.n:=by
    show X.f12.n=X.f11.n
    rw [HSM.out.l12,HSM.out.l11]
    exact (rightB_out HRT.out).c1
   have htk:=take_any (upS X) d.f1 a n cap f w.heap.size x2 V1 hbu hlim hl12 HDD.out (HRR.out.below HU3.out) hnn (HSH.out.below HU3.out)
   unfold TkA at htk
   rw [tkK_sim hsu,tkE_sim hsu,show tkK (upS x) d.f1=tkK x d.f1 from rfl,show tkE (upS x) d.f1 f n=tkE x d.f1 f n from rfl] at htk
   rw [←eK] at htk
   have hts:=tkS_sim hsu d.f1 f n
   have htr:Lns (tkS (upS x) d.f1 f n):=tk_lns HRT.out d.f1 f n
   have hto:OkState (tkS (upS x) d.f1 f n):=tk_ok (ok_up HX.out) HDD.out f n
   have hd1:=hbu.old Q1.out (by omega)
   have hd2:=hbu.old Q2.out (by omega)
   have ld1:=dp_dat hd1
   obtain ⟨TE,eTE⟩:∃ e,tkE x d.f1 f n=e:=⟨_,rfl⟩
   rw [eTE] at htk eE
   obtain ⟨TS,eTS⟩:∃ e,tkS (upS x) d.f1 f n=e:=⟨_,rfl⟩
   rw [eTS] at hts htr hto eE eS
   have HTK:=hid htk
   have HTS:=hid hts
   have HTR:=hid htr
   have HTO:=hid hto
   have HEE:=hid eE
   have HES:=hid eS
   have D2:=hid hd2
   have BU:=hid hbu
   have hsz:w.heap.size+2 < V1.heap.size:=some_ltK hd2
   clear hV1 htk hts htr hto eE eS hd1 hd2 hbu HBU hlim hl12 hxX hsu eTE eTS c10 fz kw Q0 Q1 Q2 HRR HSH HDD HX HSM HRT eK
   go_upto_region 8 with (go_at_call 18;refine HTK.out.mono ?_;rintro e' w4 ⟨X4,a4,c4,rfl,hs4,hb4,hr4,hn4,hk4⟩;have HS4:=hid hs4;have HB4:=hid hb4;have HR4:=hid hr4;have HN4:=hid hn4;have HK4:=hid hk4;clear hs4 hb4 hr4 hn4 hk4)
   have lx4:=lvState_run HB4.out.row
   have q2:=HK4.out _ _ _ D2.out (by decide) (by decide) (by decide) (by omega)
   have Q2:=hid q2
   have HU4:=hid (HUX.out.trans (HB4.out.kep.below (B:=w.heap.size) (Nat.le_refl _) HUX.out.size))
   have hz4:w.heap.size+2 < w4.heap.size:=some_ltK q2
   have rts4:∀ W,Up w4 W→∀ c,Rts (W.setRow (w.heap.size+2) c) a4 KK c4 (dpQ d.f1):=fun W h c=>rts_kept (HR4.out.below h) (HN4.out.aw hsz) ((Kept.refl _ _).setRow _)
   have HR4':=hid rts4
   have nw4:NwL w.heap.size a4 KK:=HN4.out.mono (by omega)
   have HN4':=hid nw4
   clear rts4 nw4 q2 HK4 HTK ld1 D2
   by_cases hT:TE=0
   ·subst hT
    have hsx:=(HTS.out:SimF TS _)
    have h4:=HS4.out rfl
    have hx4:SimF TS X4:=⟨h4.e0.trans hsx.e0,h4.e1.trans hsx.e1,h4.e2.trans hsx.e2,h4.e3.trans hsx.e3,h4.e4.trans hsx.e4,h4.e5.trans hsx.e5,h4.e6.trans hsx.e6,h4.l7.trans hsx.l7,h4.z7.trans hsx.z7,h4.e8.trans hsx.e8,h4.l9.trans hsx.l9,h4.z9.trans hsx.z9,h4.e10.trans hsx.e10,h4.l11.trans hsx.l11,h4.z11.trans hsx.z11,h4.l12.trans hsx.l12,h4.z12.trans hsx.z12,h4.e13.trans hsx.e13,h4.e14.trans hsx.e14,h4.l15.trans hsx.l15,h4.z15.trans hsx.z15,h4.l16.trans hsx.l16,h4.z16.trans hsx.z16,h4.e17.trans hsx.e17,h4.e18.trans hsx.e18,h4.e19.trans hsx.e19,h4.e20.trans hsx.e20,h4.l21.trans hsx.l21,h4.z21.trans hsx.z21,h4.e22.trans hsx.e22,h4.e23.trans hsx.e23⟩
    have hri4:=right_any X4 w4 (okF_sim hx4 HTO.out).r' HB4.out.inW.r' (lnsS_sim hx4 HTR.out)
    rw [rightF hx4] at hri4
    have hE:=HEE.out
    rw [if_pos rfl] at hE
    have HX4:=hid hx4
    cases hRT:rightB TS
    ·rw [hRT] at hri4 hE
     obtain rfl:EE=2:=hE
     obtain rfl:SS=oState:=HES.out
     have HRI4:=hid hri4
     clear hri4 HEE HES HTS HTO HTR HS4 h4 hsx hx4 HX4 hRT BU
     go_wp2_with (go_at_call 14;refine HRI4.out.mono ?_;rintro e' w5 ⟨rfl,hb5⟩;have s5:=svState_run (upR hb5 Q2.out) oState)
     exact retState3 6 7 8 (w.heap.size+2) oState 49 (.slice a4 KK c4) (.int .i64 2) rfl rfl rfl rfl rfl (setRow_at (upR hb5 Q2.out)) ⟨oState,a4,c4,rfl,resO _ _,HR4'.out _ hb5 _,HN4'.out,below_row (upT HU4.out hb5) (by omega) _⟩
    ·rw [hRT] at hri4 hE
     obtain rfl:EE=0:=hE
     obtain rfl:SS=TS:=HES.out
     have HRI4:=hid hri4
     clear hri4 HEE HES HTS HTO HTR HS4 h4 hsx hx4 hRT
     go_wp2_with (go_at_call 14;refine HRI4.out.mono ?_;rintro e' w5 ⟨rfl,hb5⟩;have lx5:=lvState_run (upR hb5 HB4.out.row);have s5:=svState_run (upR hb5 Q2.out) X4)
     exact retState3 6 7 8 (w.heap.size+2) X4 49 (.slice a4 KK c4) (.int .i64 0) rfl rfl rfl rfl rfl (setRow_at (upR hb5 Q2.out)) ⟨X4,a4,c4,rfl,((HB4.out.below hb5).give (upR hb5 Q2.out) _).to HUX.out.size HX4.out,HR4'.out _ hb5 _,HN4'.out,below_row (upT HU4.out hb5) (by omega) _⟩
   ·have hE:=HEE.out
    rw [if_neg hT] at hE
    obtain rfl:EE=TE:=hE
    have hS:=HES.out
    rw [if_neg hT] at hS
    obtain rfl:SS=oState:=hS
    have s5:=svState_run Q2.out oState
    clear HEE HES HTS HTO HTR HS4 lx4 BU
    go_wp2
    exact retState3 6 7 8 (w.heap.size+2) oState 49 (.slice a4 KK c4) (.int .i64 EE) rfl rfl rfl rfl rfl (setRow_at Q2.out) ⟨oState,a4,c4,rfl,resO _ _,HR4'.out _ (Below.refl _ _) _,HN4'.out,below_row HU4.out (by omega) _⟩
end
end Go.Proofs.YtfgmddnfhphdeaaGreatDoor
