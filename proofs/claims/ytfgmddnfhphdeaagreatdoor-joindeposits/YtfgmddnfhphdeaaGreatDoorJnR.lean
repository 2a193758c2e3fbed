/- A part. -/
import Derived.Test.YtfgmddnfhphdeaaGreatDoorQO
import Derived.Test.YtfgmddnfhphdeaaGreatDoorQR
import Derived.Test.YtfgmddnfhphdeaaGreatDoorQS
import Derived.Test.YtfgmddnfhphdeaaGreatDoorQK
import Derived.Test.YtfgmddnfhphdeaaGreatDoorQJ
import Derived.Test.YtfgmddnfhphdeaaGreatDoorMaD
import Derived.Test.YtfgmddnfhphdeaaGreatDoorStY
import Derived.Test.YtfgmddnfhphdeaaGreatDoorQT
namespace Go.Proofs.YtfgmddnfhphdeaaGreatDoor
open Go.RowKit
set_option linter.unusedVariables false
set_option linter.unusedSimpArgs false
set_option maxRecDepth 20000
theorem dp_key {w:World} {g:Nat} {d:VDeposit} {t:TypeId} (h:w.heap[g]?=some (.cells (cel (sDeposit d)) t)):(lvKy ⟨g,224,none⟩).run Tryz.prog w=.ok (.agg (vs .u8 48 d.f1.f0)) w:=by
 have:=rangeX (a:=celL (sProof d.f0)) (b:=celL [.by 32 d.f1.f1,.nu d.f1.f2,.by 96 d.f1.f3]) h (bl d.f1.f0 48) (by kernel_rfl)
 rw [celL_len,show slen (sProof d.f0)=224 from rfl] at this
 exact lvKy_mid fun j hj=>this j _ (bl_at _ _ _ hj)
theorem dp_sig {w:World} {g:Nat} {d:VDeposit} {t:TypeId} (h:w.heap[g]?=some (.cells (cel (sDeposit d)) t)):(lvSg ⟨g,305,none⟩).run Tryz.prog w=.ok (.agg (vs .u8 96 d.f1.f3)) w:=by
 have:=rangeX (a:=celL (sProof d.f0++[.by 48 d.f1.f0,.by 32 d.f1.f1,.nu d.f1.f2])) (b:=[]) h (bl d.f1.f3 96) (by kernel_rfl)
 rw [celL_len,show slen (sProof d.f0++[.by 48 d.f1.f0,.by 32 d.f1.f1,.nu d.f1.f2])=305 from rfl] at this
 exact lvSg_in this
theorem dp_crd {w:World} {g:Nat} {d:VDeposit} {t:TypeId} (h:w.heap[g]?=some (.cells (cel (sDeposit d)) t)):(lv24 ⟨g,272,none⟩).run Tryz.prog w=.ok (.agg (vs .u8 32 d.f1.f1)) w:=by
 have:=rangeX (a:=celL (sProof d.f0++[.by 48 d.f1.f0])) (b:=celL [.nu d.f1.f2,.by 96 d.f1.f3]) h (bl d.f1.f1 32) (by kernel_rfl)
 rw [celL_len,show slen (sProof d.f0++[.by 48 d.f1.f0])=272 from rfl] at this
 exact lv24_mid fun j hj=>this j _ (bl_at _ _ _ hj)
theorem dn_fin {TS P:VState} {EE:Int} {SS:VState} (h:SimF TS P) (hE:EE=if rightB TS=true then 0 else 2) (hS:SS=if EE=0 then TS else oState):dnE P 0=EE∧SimF SS (dnS P 0):=by
 have e1:dnE P 0=EE:=by rw [hE];show (if rightB P=true then (0:Int) else 2)=_;rw [rightF h]
 refine ⟨e1,?_⟩
 unfold dnS
 rw [e1,hS]
 split
 ·exact h
 ·exact SimF.refl _
theorem dn_res {w V W:World} {y b B:Nat} {P SS:VState} {C:Array Value} (h:BK w y V P) (hu:Up V W) (hr:W.heap[b]?=some (.cells C 49)) (hB:B≤w.heap.size) (hs:SimF SS (dnS P 0)) (c:Array Value):Res B (W.setRow b c) SS (dnS P 0):=by
 unfold dnS at hs ⊢
 by_cases hz:dnE P 0=0
 ·rw [if_pos hz] at hs ⊢
  exact ((h.below hu).give hr c).to hB hs
 ·rw [if_neg hz] at hs ⊢
  exact (resO B _).to (Nat.le_refl _) hs
theorem bdVa_nv (W:World) (d:VDepositData) (E:Int) (h:efV d.f2=E):(bdVa #[(0,.agg (vs .u8 48 d.f0)),(1,.agg (vs .u8 32 d.f1)),(2,.int .u64 E),(4,.int .u64 18446744073709551615),(5,.int .u64 18446744073709551615),(6,.int .u64 18446744073709551615),(7,.int .u64 18446744073709551615)]).run Tryz.prog W=.ok (.agg (cel (sValidator (nvV d)))) W:=by subst h;exact bdVa_run ..
attribute [local go_sem ↓] lvState_eq svState_eq bdState_eq lvDd_eq lv24_eq sv24_eq lvKy_eq lvSg_eq bsK_eq bs22_eq ixU_eq bdVa_eq bsVa_eq bsNu_eq bsBy_eq
set_option maxHeartbeats 16000000 in
theorem rdep_any (x : VState) (d : VDeposit) (a : Option Addr) (n cap : Nat) (f : Nat → Int) (w : World) (hx : OkState x) (hw : InW w x) (hn : NilW x) (hd : OkDeposit d) (hr : Rts w a n cap f) (hnn : n ≤ 9223372036854775807) (hC : Rc w) :
    Calls Tryz.prog 8 #[.agg (cel (sState x)),.agg (cel (sDeposit d)),.slice a n cap] w (JdA x d f n w):=by
 obtain ⟨W0,hW0⟩:∃ W,((w.alloc (.cells (cel (sState x)) 49)).alloc (.cells (cel (sDeposit d)) 60)).alloc (.cells (cel (sState oState)) 49)=W:=⟨_,rfl⟩
 have r0:W0.heap[w.heap.size]?=some (.cells (cel (sState x)) 49):=by rw [←hW0];exact (heap_old (by simp<;>omega)).trans ((heap_old (by simp)).trans (heap_new rfl))
 have r1:W0.heap[w.heap.size+1]?=some (.cells (cel (sDeposit d)) 60):=by rw [←hW0];exact (heap_old (by simp)).trans (heap_new (by simp))
 have r2:W0.heap[w.heap.size+2]?=some (.cells (cel (sState oState)) 49):=by rw [←hW0];exact heap_new (by simp)
 have hB0:Up w W0:=by rw [←hW0];exact (((Below.refl _ _).alloc (Nat.le_refl _) _).alloc (by simp) _).alloc (by simp<;>omega) _
 have hri:=rright_any x W0 hx.r' (hw.below hB0).r' ⟨hx.o10.1,hx.o4.1.1,hx.o18.1.1,hx.o19.1.1,hx.o20.1.1⟩
 have lx:=lvState_run r0
 have z:=zeroState
 have bz:=bdState_0
 have HB:=hid hB0
 have HW:=hid hW0
 have R0:=hid r0
 have R1:=hid r1
 have R2:=hid r2
 unfold JdA
 cases hR:rightB x
 ·rw [hR] at hri
  have HRI:=hid hri
  have eP:jdP x d=1:=by unfold jdP;rw [hR];rfl
  have eK:jdK x d=0:=by unfold jdK;rw [eP];rfl
  have eE:jdE x d f n=1:=by unfold jdE;rw [eP];rfl
  have eS:jdS x d f n=oState:=by unfold jdS;rw [eE];rfl
  rw [eK,eE,eS]
  clear hri hB0 hW0 r0 r1 r2 hx hw hn hd hr hnn hC eP eK eE eS
  go_enter Tryz.func8,Tryz.ntmps8
  go_upto_region 1 with fail
  rw [HW.out]
  clear HW z
  go_wp2_with (go_at_call 19;refine HRI.out.mono ?_;rintro e' w1 ⟨rfl,hu⟩;have s1:=svState_run (upR hu R2.out) oState)
  exact retState3 6 7 8 (w.heap.size+2) oState 49 (.slice none 0 0) (.int .i64 1) rfl rfl rfl rfl rfl (setRow_at (upR hu R2.out)) ⟨oState,none,0,rfl,resO _ _,.inl ⟨rfl,rfl,rfl⟩,.inl rfl,below_row (upT HB.out hu) (by omega) _⟩
 ·rw [hR] at hri
  have HRI:=hid hri
  have hf10:x.f10=((x.f10.toNat:Nat):Int):=(Int.toNat_of_nonneg hx.o10.1).symm
  have hrd:=fun (W:World) (h:Up w W)=>rrootDepositData_any d.f1 W hd.2 (hC.below h)
  have hho:∀ W,Up W0 W→Calls Tryz.prog 20 #[.agg (vs .u8 32 (hDepositData d.f1)),.slice (some ⟨w.heap.size+1,0,none⟩) 7 7,.int .u64 x.f10,.agg (vs .u8 32 x.f8.f0)] W fun e w'=>e=.returned (.bool (holdsV (hDepositData d.f1) d.f0.f0 7 x.f10.toNat x.f8.f0))∧Below W.heap.size W w':=fun W h=>by
   have:=rholds_any (hDepositData d.f1) x.f8.f0 d.f0.f0 (some ⟨w.heap.size+1,0,none⟩) 7 7 x.f10.toNat W (hC.below (upT hB0 h)) (fun j hj=>hDepositData_bd hd.2 j hj) (dp_prf (upR h r1)) (fun j hj=>hd.1 j (by omega)) (by have:=hx.o10.2;omega) (by omega)
   rw [←hf10] at this
   exact this
  have hcp:∀ W:World,Up w W→Calls Tryz.prog 6 #[.agg (cel (sState x))] W fun e w'=>∃ X:VState,e=.returned (.agg (cel (sState X)))∧SimF x X∧CpdF W.heap.size w' X∧Below W.heap.size W w':=fun W h=>copy_full x W (hw.below h) hn (small_rch hR)
  have hfi:=fun (W:World) (h:Up w W)=>rfind_any x d.f1.f0 W (hw.below h) (right_small hR).2.2.1
  have hld:∀ W,Up W0 W→(lvDd ⟨w.heap.size+1,224,none⟩).run Tryz.prog W=.ok (.agg (cel (sDepositData d.f1))) W:=fun W h=>dp_dat (upR h r1)
  have hlr:∀ W,Up W0 W→(lv24 ⟨w.heap.size,654,none⟩).run Tryz.prog W=.ok (.agg (vs .u8 32 x.f8.f0)) W:=fun W h=>lv24_mid fun j hj=>dp_root (upR h r0) j hj
  have hc10:∀ W,Up W0 W→W.cell? ⟨w.heap.size,720,none⟩=some (.int .u64 x.f10):=fun W h=>cS10 (upR h r0)
  have eK:jdK x d=if holdsV (hDepositData d.f1) d.f0.f0 7 x.f10.toNat x.f8.f0=true then tkK x d.f1 else 0:=by
   unfold jdK jdP
   rw [hR,if_pos rfl]
   by_cases h:holdsV (hDepositData d.f1) d.f0.f0 7 x.f10.toNat x.f8.f0=true
   ·rw [if_pos h,if_pos rfl,if_pos h]
   ·rw [if_neg h,if_neg (by omega),if_neg h]
  have eE:jdE x d f n=if holdsV (hDepositData d.f1) d.f0.f0 7 x.f10.toNat x.f8.f0=true then (if tkE x d.f1 f n=0 then (if rightB (tkS (upS x) d.f1 f n)=true then 0 else 2) else tkE x d.f1 f n) else 34:=by
   unfold jdE jdP
   rw [hR,if_pos rfl]
   by_cases h:holdsV (hDepositData d.f1) d.f0.f0 7 x.f10.toNat x.f8.f0=true
   ·rw [if_pos h,if_pos rfl,if_pos h]
   ·rw [if_neg h,if_neg (by omega),if_neg h]
  have eS:jdS x d f n=if jdE x d f n=0 then tkS (upS x) d.f1 f n else oState:=rfl
  obtain ⟨KK,eKK⟩:∃ k,jdK x d=k:=⟨_,rfl⟩
  obtain ⟨EE,eEE⟩:∃ k,jdE x d f n=k:=⟨_,rfl⟩
  obtain ⟨SS,eSS⟩:∃ k,jdS x d f n=k:=⟨_,rfl⟩
  rw [eKK] at eK
  rw [eEE] at eE eS
  rw [eSS] at eS
  rw [eKK,eEE,eSS]
  obtain ⟨QV,eQV⟩:∃ q,dpQ d.f1=q:=⟨_,rfl⟩
  rw [eQV]
  have HQV:=hid eQV
  obtain ⟨HV,eHV⟩:∃ k,holdsV (hDepositData d.f1) d.f0.f0 7 x.f10.toNat x.f8.f0=k:=⟨_,rfl⟩
  rw [eHV] at eK eE
  simp only [eHV] at hho
  obtain ⟨HR,eHR⟩:∃ k,hDepositData d.f1=k:=⟨_,rfl⟩
  rw [eHR] at hho
  simp only [eHR] at hrd
  have HRD:=hid hrd
  have HHO:=hid hho
  have HCP:=hid hcp
  have HFI:=hid hfi
  have HLD0:=hid hld
  have HLR0:=hid hlr
  have HC100:=hid hc10
  have HX:=hid hx
  have HRT:=hid hR
  have HRR:=hid hr
  have HCC:=hid hC
  have HDD:=hid hd
  clear eQV eKK eEE eSS hri hrd hho hcp hfi hld hlr hc10 hB0 hW0 r0 r1 r2 hx hw hn hd hr hC hf10 eHV eHR hR
  go_enter Tryz.func8,Tryz.ntmps8
  go_upto_region 1 with fail
  rw [HW.out]
  clear HW
  go_upto_region 3 with (go_at_call 19;refine HRI.out.mono ?_;rintro e' w1 ⟨rfl,hb1⟩)
  have ld1:=HLD0.out w1 hb1
  have HR1:=hid (HRD.out w1 (upT HB.out hb1))
  have HU1:=hid hb1
  have zr:=zero_root
  clear hb1 lx HRI HRD
  go_upto_region 4 with (go_at_call 12;refine HR1.out.mono ?_;rintro e' w2 ⟨rfl,hb2⟩;have sv:=sv24_newv w2 (fun _=>0) HR)
  obtain ⟨W1,y9,hW1,ey9,r9,hd9,b9⟩:=upN2 hb2 (.cells (vs .u8 32 HR) 24)
  rw [hW1,ey9]
  have HUW:=hid (upT HU1.out (upT hb2 hd9))
  have HLE:=hid (show ∀ W,Up W1 W→(lv24 ⟨y9,0,none⟩).run Tryz.prog W=.ok (.agg (vs .u8 32 HR)) W from fun W h=>lv24_run (upR h r9))
  have HLR:=hid (fun W (h:Up W1 W)=>HLR0.out W (upT HUW.out h))
  have HC10:=hid (fun W (h:Up W1 W)=>HC100.out W (upT HUW.out h))
  replace HHO:=hid (fun W (h:Up W1 W)=>HHO.out W (upT HUW.out h))
  clear hW1 ey9 r9 hd9 b9 hb2 sv zr HR1 HLR0 HC100 ld1 HU1
  refine wp_region_noPanic ?_
  refine wp_region_held_drew (S:=fun W=>Up W1 W) (by kernel_rfl) ((Below.refl _ _).drew) (fun hHeld=>?_)
  generalize W1.drew=wd at hHeld ⊢
  refine tk 0 (v:=?v901) ?y901 hHeld ?r901
  case y901=>intro w hSw;have ld0:=HLE.out w hSw;go_simp;try with_reducible rfl
  refine tk 1 (v:=?v902) ?y902 hHeld ?r902
  case y902=>intro w hSw;go_simp;try with_reducible rfl
  refine tk 2 (v:=?v903) ?y903 hHeld ?r903
  case y903=>intro w hSw;go_simp;try with_reducible rfl
  refine tk 3 (v:=?v904) ?y904 hHeld ?r904
  case y904=>intro w hSw;go_simp;try with_reducible rfl
  refine tk 4 (v:=?v905) ?y905 hHeld ?r905
  case y905=>intro w hSw;have ld0:=HC10.out w hSw;go_simp;try with_reducible rfl
  refine tk 5 (v:=?v906) ?y906 hHeld ?r906
  case y906=>intro w hSw;go_simp;try with_reducible rfl
  refine tk 6 (v:=?v907) ?y907 hHeld ?r907
  case y907=>intro w hSw;go_simp;try with_reducible rfl
  refine tk 7 (v:=?v908) ?y908 hHeld ?r908
  case y908=>intro w hSw;have ld0:=HLR.out w hSw;go_simp;try with_reducible rfl
  try simp only [Act.put,z_1,z_2,z_3,z_4,z_5,z_6,z_7]
  refine rd1 8 (fun K hK=>?_)
  go_simp
  refine (HHO.out _ hHeld).mono ?_
  rintro e' x2 ⟨rfl,hd2⟩
  dsimp only
  have hc2:=upT hHeld hd2
  refine hK.out _ _ hc2 (fun hHeld=>?_)
  clear hK K
  try simp only [Act.put,z_1,z_2,z_3,z_4,z_5,z_6,z_7]
  refine tk 9 (v:=?v909) ?y909 hHeld ?r909
  case y909=>intro w hSw;go_simp;try with_reducible rfl
  try simp only [Act.put,z_1,z_2,z_3,z_4,z_5,z_6,z_7]
  refine wpAnyH_done (by kernel_rfl) ?_ _
  refine NoPanic.normal ?_
  have HU2:=hid hc2
  clear hd2 hc2 hHeld
  cases HV
  ·rw [if_neg (by simp)] at eK eE
   obtain rfl:KK=0:=eK
   obtain rfl:EE=34:=eE
   rw [if_neg (by omega)] at eS
   obtain rfl:SS=oState:=eS
   have HU:=hid (upT HUW.out HU2.out)
   have s2:=svState_run (upR HU.out R2.out) oState
   clear HHO HCP HFI HLD0 HLR HC10 HX HRT HRR HCC HDD HUW HU2 HLE z
   go_wp2
   exact retState3 6 7 8 (w.heap.size+2) oState 49 (.slice none 0 0) (.int .i64 34) rfl rfl rfl rfl rfl (setRow_at (upR HU.out R2.out)) ⟨oState,none,0,rfl,resO _ _,.inl ⟨rfl,rfl,rfl⟩,.inl rfl,below_row (upT HB.out HU.out) (by omega) _⟩
  ·rw [if_pos rfl] at eK eE
   have HU:=hid (upT HUW.out HU2.out)
   have lx2:=lvState_run (upR HU.out R0.out)
   have HCQ:=hid (HCP.out x2 (upT HB.out HU.out))
   have Q0:=hid (upR HU.out R0.out)
   have Q1:=hid (upR HU.out R1.out)
   have Q2:=hid (upR HU.out R2.out)
   have HUX:=hid (upT HB.out HU.out)
   clear HHO HCP HLR HC10 HUW HU2 R0 R1 R2 HU HLE HLD0
   go_upto_region 7 with (go_at_call 6;refine HCQ.out.mono ?_;rintro e' w3 ⟨X,rfl,hsim,hcd,hb3⟩;have sv:=svState_newv w3 oState X;have HSM:=hid hsim;have HCD:=hid hcd;have HB3:=hid hb3;clear hsim hcd hb3)
   obtain ⟨V0,hV⟩:∃ V,w3.alloc (.cells (cel (sState X)) 49)=V:=⟨_,rfl⟩
   have hbf:=BF.make HB3.out HCD.out hV
   have hy:x2.heap.size≤w3.heap.size:=HB3.out.size
   rw [hV]
   obtain ⟨y,ey⟩:∃ y,w3.heap.size=y:=⟨_,rfl⟩
   rw [ey] at hbf hy ⊢
   have hbk:BK x2 y V0 X:=⟨Kept.ofBelow hbf.bel,hbf.row,hbf.cpd⟩
   have hbu:=hbk.setY (Y':=upS X) 720 (.int .u64 (w64 (X.f10+1))) (st_10 X _) rfl rfl rfl rfl rfl rfl rfl
   have c10:=cS10 hbk.row
   have fz:=row_frozen hbk.row 720
   have kw:IntKind.u64.wrap (X.f10+1)=w64 (X.f10+1):=rfl
   have HBU:=hid hbu
   have HY:=hid hy
   clear hV hbf sv HCD HB3 HCQ hbk lx2 hbu ey hy
   go_upto_region 8 with fail
   obtain ⟨V1,hV1⟩:∃ V,V0.setCell ⟨y,720,none⟩ (.int .u64 (w64 (X.f10+1)))=V:=⟨_,rfl⟩
   rw [hV1] at HBU ⊢
   have hbu:=HBU.out
   have hs0:w.heap.size+2 < x2.heap.size:=some_ltK Q2.out
   have hyy:=HY.out
   have HU3:=hid (HUX.out.trans (hbu.kep.below (B:=w.heap.size) (by omega) HUX.out.size))
   have q0:=hbu.old Q0.out (by omega)
   have q1:=hbu.old Q1.out (by omega)
   have q2:=hbu.old Q2.out (by omega)
   have P0:=hid q0
   have P1:=hid q1
   have P2:=hid q2
   have camt:V1.cell? ⟨w.heap.size+1,304,none⟩=some (.int .u64 d.f1.f2):=seg_nu q1 3 d.f1.f2 rfl 304 rfl
   have lx1:=lvState_run q0
   have lk1:=dp_key q1
   have HF1:=hid (HFI.out V1 HU3.out)
   have hO:owN x.f11.z d.f1.f0 x.f11.n=dpO x d.f1:=rfl
   rw [hO] at HF1
   have c11:=fun W (h:Up V1 W)=>cS11 (upR h q0)
   have HC11:=hid c11
   have HBU:=hid hbu
   have hS2:=upS_sim HSM.out
   have hts:=tkS_sim hS2 d.f1 f n
   have htE:tkE x d.f1 f n=if dpO x d.f1 < x.f11.n then (if 144115188075855872 < d.f1.f2 then 2 else 0) else if gdB (dpQ d.f1) f n=true then (if 65536≤x.f11.n then 6 else if 144115188075855872 < d.f1.f2 then 2 else 0) else 0:=rfl
   have htK:tkK x d.f1=if dpO x d.f1 < x.f11.n then 0 else 1:=rfl
   obtain ⟨Y,eY⟩:∃ Z,upS X=Z:=⟨_,rfl⟩
   rw [eY] at hbu hS2 hts
   have e0:dpO Y d.f1=dpO x d.f1:=by unfold dpO;rw [hS2.l11,hS2.z11];rfl
   have l11:Y.f11.n=x.f11.n:=hS2.l11
   have l12:Y.f12.n=x.f11.n:=hS2.l12.trans (rightB_out HRT.out).c1
   have hsmall:=right_small HRT.out
   have hlim:Lim Y:=by
    have:=lim_right HRT.out
    unfold Lim at this ⊢
    rw [hS2.l11,hS2.l12,hS2.l15,hS2.l16,hS2.l21]
    exact this
   have hok:OkState (tkS Y d.f1 f n):=okF_sim hts (tk_ok (ok_up HX.out) HDD.out.2 f n)
   have HBU:=hid hbu
   have HTS:=hid hts
   have HOK:=hid hok
   have HS2:=hid hS2
   clear hV1 hbu hts hok hS2 eY c10 fz kw q0 q1 q2 HSM HRT z bz
   by_cases ho:dpO x d.f1 < x.f11.n
   ·rw [if_pos ho] at htE htK
    rw [htK] at eK
    obtain rfl:KK=0:=eK
    have ho1:((dpO x d.f1:Nat):Int) < (x.f11.n:Int):=by omega
    by_cases hm:144115188075855872 < d.f1.f2
    ·rw [if_pos hm] at htE
     rw [htE,if_neg (by omega)] at eE
     obtain rfl:EE=2:=eE
     rw [if_neg (by omega)] at eS
     obtain rfl:SS=oState:=eS
     clear HTS HOK HS2 htE htK HBU
     go_upto_region 10 with (go_at_call 21;refine HF1.out.mono ?_;rintro e' w4 ⟨rfl,hb4⟩)
     have c4:=HC11.out w4 hb4
     have s4:=svState_run (upR hb4 P2.out) oState
     have z:=zeroState
     have bz:=bdState_0
     go_wp2
     exact retState3 6 7 8 (w.heap.size+2) oState 49 (.slice none 0 0) (.int .i64 2) rfl rfl rfl rfl rfl (setRow_at (upR hb4 P2.out)) ⟨oState,none,0,rfl,resO _ _,.inl ⟨rfl,rfl,rfl⟩,.inl rfl,below_row (upT HU3.out hb4) (by omega) _⟩
    ·rw [if_neg hm] at htE
     rw [htE,if_pos rfl] at eE
     have hT:tkS Y d.f1 f n=balS Y (dpO x d.f1) (w64 (Y.f12.z (dpO x d.f1)+d.f1.f2)):=by
      unfold tkS
      rw [e0,l11,if_pos ho]
     have ho12:dpO x d.f1 < Y.f12.n:=by omega
     replace HTS:=hid (show SimF (tkS (upS x) d.f1 f n) (balS Y (dpO x d.f1) (w64 (Y.f12.z (dpO x d.f1)+d.f1.f2))) by rw [←hT];exact HTS.out)
     replace HOK:=hid (show OkState (balS Y (dpO x d.f1) (w64 (Y.f12.z (dpO x d.f1)+d.f1.f2))) by rw [←hT];exact HOK.out)
     have HEE:=hid eE
     have HES:=hid eS
     clear HS2 htE htK hT eE eS e0 l11 l12 hsmall hlim
     go_upto_region 10 with (go_at_call 21;refine HF1.out.mono ?_;rintro e' w4 ⟨rfl,hb4⟩)
     have c4:=HC11.out w4 hb4
     clear lx1 lk1 camt
     go_upto_region 13 with fail
     clear c4 HC11 HF1
     have hb5:=HBU.out.below hb4
     obtain ⟨g,hg⟩:=own_some hb5.cpd.o12 (by omega)
     have hbl:=hb5.bl12 hg
     obtain ⟨C,hrow⟩:=hbl.row
     have c0:=hbl.c12
     have cg:=hbl.at_ (dpO x d.f1) ho12
     have fg:=row_frozen hrow (dpO x d.f1)
     have hix:=fun W=>ixN_i W g Y.f12.n Y.f12.c (dpO x d.f1) ho12
     have hb6:=hb5.bal (w64 (Y.f12.z (dpO x d.f1)+d.f1.f2)) hg ho12
     have kw:IntKind.u64.wrap (Y.f12.z (dpO x d.f1)+d.f1.f2)=w64 (Y.f12.z (dpO x d.f1)+d.f1.f2):=rfl
     have HB6:=hid hb6
     clear hb5 hbl hb6 hrow hg hb4
     go_upto_region 14 with fail
     obtain ⟨VF,hV6⟩:∃ V,w4.setCell ⟨g,dpO x d.f1,none⟩ (.int .u64 (w64 (Y.f12.z (dpO x d.f1)+d.f1.f2)))=V:=⟨_,rfl⟩
     rw [hV6] at HB6 ⊢
     clear hV6 c0 cg fg hix kw
     obtain ⟨P,eP⟩:∃ Z,balS Y (dpO x d.f1) (w64 (Y.f12.z (dpO x d.f1)+d.f1.f2))=Z:=⟨_,rfl⟩
     rw [eP] at HB6 HTS HOK
     clear eP
     have hbp:=HB6.out
     have hdn:=rdone_any P 0 VF HOK.out hbp.inW
     obtain ⟨hE0,hS0⟩:=dn_fin HTS.out HEE.out HES.out
     rw [hE0] at hdn
     have q2:=hbp.old Q2.out (by have:=HY.out;have:=some_ltK Q2.out;omega)
     have ly:=lvState_run hbp.row
     have hres:=fun (W:World) (h:Up VF W) c=>dn_res hbp h (upR h q2) HUX.out.size hS0 c
     have HU6:=hid (HUX.out.trans (hbp.kep.below (B:=w.heap.size) (by have:=HY.out;have:=some_ltK Q2.out;omega) HUX.out.size))
     obtain ⟨D,eD⟩:∃ Z,dnS P 0=Z:=⟨_,rfl⟩
     rw [eD] at hdn
     simp only [eD] at hres
     have HDN:=hid hdn
     have HRES:=hid hres
     have R6:=hid q2
     clear hbp hdn hE0 hS0 q2 hres eD HB6 HTS HOK HEE HES
     go_upto_region 15 with (go_at_call 22;refine HDN.out.mono ?_;rintro e' w7 ⟨rfl,hb7⟩;have z:=zeroState;have sv:=svState_newv w7 oState D)
     obtain ⟨W8,y8,hW8,ey8,r8,hd8,b8⟩:=upN2 hb7 (.cells (cel (sState D)) 49)
     rw [hW8,ey8]
     have h68:=upT hb7 hd8
     have lx8:=lvState_run r8
     have s8:=svState_run (upR h68 R6.out) D
     clear hW8 ey8 sv z
     go_wp2
     exact retState3 6 7 8 (w.heap.size+2) D 49 (.slice none 0 0) (.int .i64 EE) rfl rfl rfl rfl rfl (setRow_at (upR h68 R6.out)) ⟨D,none,0,rfl,HRES.out _ h68 _,.inl ⟨rfl,rfl,rfl⟩,.inl rfl,below_row (upT HU6.out h68) (by omega) _⟩
   ·rw [if_neg ho] at htE htK
    rw [htK] at eK
    obtain rfl:KK=1:=eK
    have ho1:¬ ((dpO x d.f1:Nat):Int) < (x.f11.n:Int):=by omega
    have eQV:=HQV.out
    rw [eQV] at htE
    have hTk:tkS Y d.f1 f n=if gdB QV f n=true then enS Y d.f1 else Y:=by unfold tkS;rw [e0,l11,if_neg ho,eQV]
    have hTx:tkS (upS x) d.f1 f n=if gdB QV f n=true then enS (upS x) d.f1 else upS x:=by unfold tkS;rw [show dpO (upS x) d.f1=dpO x d.f1 from rfl,show (upS x).f11.n=x.f11.n from rfl,if_neg ho,eQV]
    have HEE:=hid eE
    have HES:=hid eS
    have HTE:=hid htE
    have HTK:=hid hTk
    have HTX:=hid hTx
    have HL:=hid hlim
    have HNX:=hid l11
    have hbd:=HDD.out.2
    clear eQV htE htK hTk hTx eE eS hlim l11 l12 e0 hsmall
    go_upto_region 10 with (go_at_call 21;refine HF1.out.mono ?_;rintro e' V5 ⟨rfl,hb4⟩)
    have c4:=HC11.out V5 hb4
    have HC5:=hid (fun W (h:Up V5 W)=>HC11.out W (upT hb4 h))
    have hu5:=upT HU3.out hb4
    have P15:=hid (upR hb4 P1.out)
    have HB5:=hid (HBU.out.below hb4)
    have HSZ:=hid (some_ltK (upR hb4 P2.out))
    have HU5:=hid hu5
    clear lx1 lk1 camt
    go_upto_region 16 with fail
    obtain ⟨KF,eKF⟩:∃ q,d.f1.f0=q:=⟨_,rfl⟩
    have eQV:=HQV.out
    have HLK:=hid (show ∀ W,Up V5 W→(lvKy ⟨w.heap.size+1,224,none⟩).run Tryz.prog W=.ok (.agg (vs .u8 48 KF)) W from fun W h=>by rw [←eKF];exact dp_key (upR h P15.out))
    have HLD:=hid (fun W (h:Up V5 W)=>dp_dat (upR h P15.out))
    have HLS:=hid (fun W (h:Up V5 W)=>dp_sig (upR h P15.out))
    have HME:=hid (fun W (h:Up V5 W)=>rMessage_any d.f1 W hbd (HCC.out.below (upT hu5 h)))
    have HDE:=hid (fun W (h:Up V5 W)=>rDeposits_any W (HCC.out.below (upT hu5 h)))
    have HRO:=hid (fun W (h:Up V5 W)=>rRoot_any (msV d.f1) depV W (fun j hj=>msV_bd hbd j hj) (fun j _=>depV_bd j) (HCC.out.below (upT hu5 h)))
    have HQU:=hid (show ∀ (W:World) yk,Up V5 W→W.heap[yk]?=some (.cells (vs .u8 48 KF) 44)→Calls Tryz.prog 23 #[.slice (some ⟨yk,0,none⟩) 1 1,.agg (vs .u8 32 (tw (msV d.f1) depV)),.agg (vs .u8 96 d.f1.f3)] W fun e' w'=>e'=.returned (.agg (vs .u8 32 QV))∧Below W.heap.size W w' from fun W yk h hy=>by
     rw [←eQV]
     subst eKF
     exact rQuestion_any (some ⟨yk,0,none⟩) 1 1 d.f1.f0 _ d.f1.f3 W (.inr (.inr ⟨yk,0,rfl,by omega,some_ltK hy,fun j hj=>by rw [Nat.zero_add];exact row_int hy j (by omega)⟩)) (fun j hj=>hbd.1 j (by omega)) (fun j _=>twB ..) hbd.2.2.2 (by omega) (HCC.out.below (upT hu5 h)))
    have HGO:=hid (fun W (h:Up V5 W)=>rGood_any QV f a n cap W (HRR.out.below (upT hu5 h)) hnn)
    have HBD:=hid hbd
    have HYB:=hid (some_ltK HB5.out.row)
    clear c4 hb4 HC11 HF1 P0 P1 P2 HU3 hbd eKF eQV HCC HRR hu5 HBU
    go_cut [16] from 79 (fun u wx=>∃ y,u=.pointer (some ⟨y,0,none⟩)∧wx.heap[y]?=some (.cells (vs .u8 32 QV) 24)∧Up V5 wx∧V5.heap.size≤y)
    case first =>
     refine wp_region_noPanic ?_
     refine wp_region_held_drew (S:=fun W=>Up V5 W) (by kernel_rfl) ((Below.refl _ _).drew) (fun hHeld=>?_)
     generalize V5.drew=wd at hHeld ⊢
     refine tk 0 (v:=?v910) ?y910 hHeld ?r910
     case y910=>intro w hSw;go_simp;try with_reducible rfl
     refine tk 1 (v:=?v911) ?y911 hHeld ?r911
     case y911=>intro w hSw;go_simp;try with_reducible rfl
     refine tk 2 (v:=?v912) ?y912 hHeld ?r912
     case y912=>intro w hSw;have ld0:=HLK.out w hSw;go_simp;try with_reducible rfl
     refine tk 4 (v:=?v913) ?y913 hHeld ?r913
     case y913=>intro w hSw;go_simp;try with_reducible rfl
     refine tk 5 (v:=?v914) ?y914 hHeld ?r914
     case y914=>intro w hSw;have ld0:=HLD.out w hSw;go_simp;try with_reducible rfl
     refine tk 9 (v:=?v915) ?y915 hHeld ?r915
     case y915=>intro w hSw;go_simp;try with_reducible rfl
     refine tk 10 (v:=?v916) ?y916 hHeld ?r916
     case y916=>intro w hSw;go_simp;try with_reducible rfl
     refine tk 11 (v:=?v917) ?y917 hHeld ?r917
     case y917=>intro w hSw;have ld0:=HLS.out w hSw;go_simp;try with_reducible rfl
     try simp only [Act.put,z_1,z_2,z_3,z_4,z_5,z_6,z_7]
     refine sh2 (fuel':=?f410) (listed':=?l410) (act:=?a410) (fun (y6:Nat) (y15:Nat) V=>Up V5 V∧V.heap[y6]?=some (.cells (vs .u8 48 KF) 44)∧V5.heap.size≤y6∧V.heap[y15]?=some (.cells (vs .u8 32 fun _=>0) 24)∧V5.heap.size≤y15) (fun K410=>?m410) ?t410
     case' m410=>skip
     refine sh2 (fuel':=?f409) (listed':=?l409) (act:=?a409) (fun (y6:Nat) (y15:Nat) V=>Up V5 V∧V.heap[y6]?=some (.cells (vs .u8 48 KF) 44)∧V5.heap.size≤y6∧V.heap[y15]?=some (.cells (vs .u8 32 fun _=>0) 24)∧V5.heap.size≤y15) (fun K409=>?m409) ?t409
     case' m409=>skip
     refine sh1 (fuel':=?f408) (listed':=?l408) (act:=?a408) (fun (y6:Nat) V=>Up V5 V∧V.heap[y6]?=some (.cells (vs .u8 48 KF) 44)∧V5.heap.size≤y6) (fun K408=>?m408) ?t408
     case' m408=>skip
     refine sh1 (fuel':=?f407) (listed':=?l407) (act:=?a407) (fun (y15:Nat) V=>Up V5 V∧V.heap[y15]?=some (.cells (vs .u8 32 fun _=>0) 24)∧V5.heap.size≤y15) (fun K407=>?m407) ?t407
     case' m407=>skip
     refine sh2 (fuel':=?f406) (listed':=?l406) (act:=?a406) (fun (y6:Nat) (y15:Nat) V=>Up V5 V∧V.heap[y6]?=some (.cells (vs .u8 48 KF) 44)∧V5.heap.size≤y6∧V.heap[y15]?=some (.cells (vs .u8 32 fun _=>0) 24)∧V5.heap.size≤y15) (fun K406=>?m406) ?t406
     case' m406=>skip
     refine sh1 (fuel':=?f405) (listed':=?l405) (act:=?a405) (fun (y6:Nat) V=>Up V5 V∧V.heap[y6]?=some (.cells (vs .u8 48 KF) 44)∧V5.heap.size≤y6) (fun K405=>?m405) ?t405
     case' m405=>skip
     refine sh2 (fuel':=?f404) (listed':=?l404) (act:=?a404) (fun (y6:Nat) (y15:Nat) V=>Up V5 V∧V.heap[y6]?=some (.cells (vs .u8 48 KF) 44)∧V5.heap.size≤y6∧V.heap[y15]?=some (.cells (vs .u8 32 fun _=>0) 24)∧V5.heap.size≤y15) (fun K404=>?m404) ?t404
     case' m404=>skip
     refine sh1 (fuel':=?f403) (listed':=?l403) (act:=?a403) (fun (y15:Nat) V=>Up V5 V∧V.heap[y15]?=some (.cells (vs .u8 32 fun _=>0) 24)∧V5.heap.size≤y15) (fun K403=>?m403) ?t403
     case' m403=>skip
     refine sh1 (fuel':=?f402) (listed':=?l402) (act:=?a402) (fun (y6:Nat) V=>Up V5 V∧V.heap[y6]?=some (.cells (vs .u8 48 KF) 44)∧V5.heap.size≤y6) (fun K402=>?m402) ?t402
     case' m402=>skip
     refine sh1 (fuel':=?f401) (listed':=?l401) (act:=?a401) (fun (y15:Nat) V=>Up V5 V∧V.heap[y15]?=some (.cells (vs .u8 32 fun _=>0) 24)∧V5.heap.size≤y15) (fun K401=>?m401) ?t401
     case' m401=>skip
     refine sh2 (fuel':=?f400) (listed':=?l400) (act:=?a400) (fun (y6:Nat) (y15:Nat) V=>Up V5 V∧V.heap[y6]?=some (.cells (vs .u8 48 KF) 44)∧V5.heap.size≤y6∧V.heap[y15]?=some (.cells (vs .u8 32 fun _=>0) 24)∧V5.heap.size≤y15) (fun K400=>?m400) ?t400
     case' m400=>skip
     refine rd3 3 6 13 (fun K hK=>?_) (fun K hK=>?_) (fun K hK=>?_)
     ·have zr:=bsK_1 wd KF
      go_simp
      obtain ⟨x701,y6,hx,ey,r6,hd701,b6⟩:=upN2 hHeld (.cells (vs .u8 48 KF) 44)
      rw [hx,ey]
      have l701:=Nat.le_of_eq ey
      clear hx ey zr
      have hc701:=upT hHeld hd701
      refine hK.out _ _ hc701 (fun hHeld=>?_)
      clear hK K
      try simp only [Act.put,z_1,z_2,z_3,z_4,z_5,z_6,z_7]
      refine rd2 6 13 (fun K hK=>?_) (fun K hK=>?_)
      ·go_simp
       refine (HME.out _ (hc701)).mono ?_
       rintro e' x702 ⟨rfl,hd702⟩
       dsimp only
       have hc702:=upT hc701 hd702
       replace r6:=upR hd702 r6
       refine hK.out _ _ hc702 (fun hHeld=>?_)
       clear hK K
       try simp only [Act.put,z_1,z_2,z_3,z_4,z_5,z_6,z_7]
       exact K402.out y6 x702 ⟨hc702,r6,b6⟩
      ·have zr:=zero_root
       go_simp
       obtain ⟨x703,y15,hx,ey,r15,hd703,b15⟩:=upN2 hc701 (.cells (vs .u8 32 fun _=>0) 24)
       rw [hx,ey]
       have l703:=Nat.le_of_eq ey
       clear hx ey zr
       have hc703:=upT hc701 hd703
       replace r6:=upR hd703 r6
       refine hK.out _ _ hc703 (fun hHeld=>?_)
       clear hK K
       try simp only [Act.put,z_1,z_2,z_3,z_4,z_5,z_6,z_7]
       exact K400.out y6 y15 x703 ⟨hc703,r6,b6,r15,b15⟩
     ·go_simp
      refine (HME.out _ (hHeld)).mono ?_
      rintro e' x704 ⟨rfl,hd704⟩
      dsimp only
      have hc704:=upT hHeld hd704
      refine hK.out _ _ hc704 (fun hHeld=>?_)
      clear hK K
      try simp only [Act.put,z_1,z_2,z_3,z_4,z_5,z_6,z_7]
      refine rd3 3 7 13 (fun K hK=>?_) (fun K hK=>?_) (fun K hK=>?_)
      ·have zr:=bsK_1 x704 KF
       go_simp
       obtain ⟨x705,y6,hx,ey,r6,hd705,b6⟩:=upN2 hc704 (.cells (vs .u8 48 KF) 44)
       rw [hx,ey]
       have l705:=Nat.le_of_eq ey
       clear hx ey zr
       have hc705:=upT hc704 hd705
       refine hK.out _ _ hc705 (fun hHeld=>?_)
       clear hK K
       try simp only [Act.put,z_1,z_2,z_3,z_4,z_5,z_6,z_7]
       exact K402.out y6 x705 ⟨hc705,r6,b6⟩
      ·go_simp
       refine (HDE.out _ (hc704)).mono ?_
       rintro e' x706 ⟨rfl,hd706⟩
       dsimp only
       have hc706:=upT hc704 hd706
       refine hK.out _ _ hc706 (fun hHeld=>?_)
       clear hK K
       try simp only [Act.put,z_1,z_2,z_3,z_4,z_5,z_6,z_7]
       refine rd3 3 8 13 (fun K hK=>?_) (fun K hK=>?_) (fun K hK=>?_)
       ·have zr:=bsK_1 x706 KF
        go_simp
        obtain ⟨x707,y6,hx,ey,r6,hd707,b6⟩:=upN2 hc706 (.cells (vs .u8 48 KF) 44)
        rw [hx,ey]
        have l707:=Nat.le_of_eq ey
        clear hx ey zr
        have hc707:=upT hc706 hd707
        refine hK.out _ _ hc707 (fun hHeld=>?_)
        clear hK K
        try simp only [Act.put,z_1,z_2,z_3,z_4,z_5,z_6,z_7]
        exact K405.out y6 x707 ⟨hc707,r6,b6⟩
       ·go_simp
        refine (HRO.out _ (hc706)).mono ?_
        rintro e' x708 ⟨rfl,hd708⟩
        dsimp only
        have hc708:=upT hc706 hd708
        refine hK.out _ _ hc708 (fun hHeld=>?_)
        clear hK K
        try simp only [Act.put,z_1,z_2,z_3,z_4,z_5,z_6,z_7]
        refine rd2 3 13 (fun K hK=>?_) (fun K hK=>?_)
        ·have zr:=bsK_1 x708 KF
         go_simp
         obtain ⟨x709,y6,hx,ey,r6,hd709,b6⟩:=upN2 hc708 (.cells (vs .u8 48 KF) 44)
         rw [hx,ey]
         have l709:=Nat.le_of_eq ey
         clear hx ey zr
         have hc709:=upT hc708 hd709
         refine hK.out _ _ hc709 (fun hHeld=>?_)
         clear hK K
         try simp only [Act.put,z_1,z_2,z_3,z_4,z_5,z_6,z_7]
         exact K408.out y6 x709 ⟨hc709,r6,b6⟩
        ·have zr:=zero_root
         go_simp
         obtain ⟨x710,y15,hx,ey,r15,hd710,b15⟩:=upN2 hc708 (.cells (vs .u8 32 fun _=>0) 24)
         rw [hx,ey]
         have l710:=Nat.le_of_eq ey
         clear hx ey zr
         have hc710:=upT hc708 hd710
         refine hK.out _ _ hc710 (fun hHeld=>?_)
         clear hK K
         try simp only [Act.put,z_1,z_2,z_3,z_4,z_5,z_6,z_7]
         exact K407.out y15 x710 ⟨hc710,r15,b15⟩
       ·have zr:=zero_root
        go_simp
        obtain ⟨x711,y15,hx,ey,r15,hd711,b15⟩:=upN2 hc706 (.cells (vs .u8 32 fun _=>0) 24)
        rw [hx,ey]
        have l711:=Nat.le_of_eq ey
        clear hx ey zr
        have hc711:=upT hc706 hd711
        refine hK.out _ _ hc711 (fun hHeld=>?_)
        clear hK K
        try simp only [Act.put,z_1,z_2,z_3,z_4,z_5,z_6,z_7]
        exact K403.out y15 x711 ⟨hc711,r15,b15⟩
      ·have zr:=zero_root
       go_simp
       obtain ⟨x712,y15,hx,ey,r15,hd712,b15⟩:=upN2 hc704 (.cells (vs .u8 32 fun _=>0) 24)
       rw [hx,ey]
       have l712:=Nat.le_of_eq ey
       clear hx ey zr
       have hc712:=upT hc704 hd712
       refine hK.out _ _ hc712 (fun hHeld=>?_)
       clear hK K
       try simp only [Act.put,z_1,z_2,z_3,z_4,z_5,z_6,z_7]
       exact K401.out y15 x712 ⟨hc712,r15,b15⟩
     ·have zr:=zero_root
      go_simp
      obtain ⟨x713,y15,hx,ey,r15,hd713,b15⟩:=upN2 hHeld (.cells (vs .u8 32 fun _=>0) 24)
      rw [hx,ey]
      have l713:=Nat.le_of_eq ey
      clear hx ey zr
      have hc713:=upT hHeld hd713
      refine hK.out _ _ hc713 (fun hHeld=>?_)
      clear hK K
      try simp only [Act.put,z_1,z_2,z_3,z_4,z_5,z_6,z_7]
      refine rd2 3 6 (fun K hK=>?_) (fun K hK=>?_)
      ·have zr:=bsK_1 x713 KF
       go_simp
       obtain ⟨x714,y6,hx,ey,r6,hd714,b6⟩:=upN2 hc713 (.cells (vs .u8 48 KF) 44)
       rw [hx,ey]
       have l714:=Nat.le_of_eq ey
       clear hx ey zr
       have hc714:=upT hc713 hd714
       replace r15:=upR hd714 r15
       refine hK.out _ _ hc714 (fun hHeld=>?_)
       clear hK K
       try simp only [Act.put,z_1,z_2,z_3,z_4,z_5,z_6,z_7]
       exact K400.out y6 y15 x714 ⟨hc714,r6,b6,r15,b15⟩
      ·go_simp
       refine (HME.out _ (hc713)).mono ?_
       rintro e' x715 ⟨rfl,hd715⟩
       dsimp only
       have hc715:=upT hc713 hd715
       replace r15:=upR hd715 r15
       refine hK.out _ _ hc715 (fun hHeld=>?_)
       clear hK K
       try simp only [Act.put,z_1,z_2,z_3,z_4,z_5,z_6,z_7]
       exact K401.out y15 x715 ⟨hc715,r15,b15⟩
     case t400 =>
      rintro y6 y15 V ⟨hB,r6,b6,r15,b15⟩
      have hHeld:=hB
      refine rd1 6 (fun K hK=>?_)
      go_simp
      refine (HME.out _ (hB)).mono ?_
      rintro e' x716 ⟨rfl,hd716⟩
      dsimp only
      have hc716:=upT hB hd716
      replace r6:=upR hd716 r6
      replace r15:=upR hd716 r15
      refine hK.out _ _ hc716 (fun hHeld=>?_)
      clear hK K
      try simp only [Act.put,z_1,z_2,z_3,z_4,z_5,z_6,z_7]
      exact K404.out y6 y15 x716 ⟨hc716,r6,b6,r15,b15⟩
     case t401 =>
      rintro y15 V ⟨hB,r15,b15⟩
      have hHeld:=hB
      refine rd2 3 7 (fun K hK=>?_) (fun K hK=>?_)
      ·have zr:=bsK_1 V KF
       go_simp
       obtain ⟨x717,y6,hx,ey,r6,hd717,b6⟩:=upN2 hB (.cells (vs .u8 48 KF) 44)
       rw [hx,ey]
       have l717:=Nat.le_of_eq ey
       clear hx ey zr
       have hc717:=upT hB hd717
       replace r15:=upR hd717 r15
       refine hK.out _ _ hc717 (fun hHeld=>?_)
       clear hK K
       try simp only [Act.put,z_1,z_2,z_3,z_4,z_5,z_6,z_7]
       exact K404.out y6 y15 x717 ⟨hc717,r6,b6,r15,b15⟩
      ·go_simp
       refine (HDE.out _ (hB)).mono ?_
       rintro e' x718 ⟨rfl,hd718⟩
       dsimp only
       have hc718:=upT hB hd718
       replace r15:=upR hd718 r15
       refine hK.out _ _ hc718 (fun hHeld=>?_)
       clear hK K
       try simp only [Act.put,z_1,z_2,z_3,z_4,z_5,z_6,z_7]
       exact K403.out y15 x718 ⟨hc718,r15,b15⟩
     case t402 =>
      rintro y6 V ⟨hB,r6,b6⟩
      have hHeld:=hB
      refine rd2 7 13 (fun K hK=>?_) (fun K hK=>?_)
      ·go_simp
       refine (HDE.out _ (hB)).mono ?_
       rintro e' x719 ⟨rfl,hd719⟩
       dsimp only
       have hc719:=upT hB hd719
       replace r6:=upR hd719 r6
       refine hK.out _ _ hc719 (fun hHeld=>?_)
       clear hK K
       try simp only [Act.put,z_1,z_2,z_3,z_4,z_5,z_6,z_7]
       exact K405.out y6 x719 ⟨hc719,r6,b6⟩
      ·have zr:=zero_root
       go_simp
       obtain ⟨x720,y15,hx,ey,r15,hd720,b15⟩:=upN2 hB (.cells (vs .u8 32 fun _=>0) 24)
       rw [hx,ey]
       have l720:=Nat.le_of_eq ey
       clear hx ey zr
       have hc720:=upT hB hd720
       replace r6:=upR hd720 r6
       refine hK.out _ _ hc720 (fun hHeld=>?_)
       clear hK K
       try simp only [Act.put,z_1,z_2,z_3,z_4,z_5,z_6,z_7]
       exact K404.out y6 y15 x720 ⟨hc720,r6,b6,r15,b15⟩
     case t403 =>
      rintro y15 V ⟨hB,r15,b15⟩
      have hHeld:=hB
      refine rd2 3 8 (fun K hK=>?_) (fun K hK=>?_)
      ·have zr:=bsK_1 V KF
       go_simp
       obtain ⟨x721,y6,hx,ey,r6,hd721,b6⟩:=upN2 hB (.cells (vs .u8 48 KF) 44)
       rw [hx,ey]
       have l721:=Nat.le_of_eq ey
       clear hx ey zr
       have hc721:=upT hB hd721
       replace r15:=upR hd721 r15
       refine hK.out _ _ hc721 (fun hHeld=>?_)
       clear hK K
       try simp only [Act.put,z_1,z_2,z_3,z_4,z_5,z_6,z_7]
       exact K406.out y6 y15 x721 ⟨hc721,r6,b6,r15,b15⟩
      ·go_simp
       refine (HRO.out _ (hB)).mono ?_
       rintro e' x722 ⟨rfl,hd722⟩
       dsimp only
       have hc722:=upT hB hd722
       replace r15:=upR hd722 r15
       refine hK.out _ _ hc722 (fun hHeld=>?_)
       clear hK K
       try simp only [Act.put,z_1,z_2,z_3,z_4,z_5,z_6,z_7]
       exact K407.out y15 x722 ⟨hc722,r15,b15⟩
     case t404 =>
      rintro y6 y15 V ⟨hB,r6,b6,r15,b15⟩
      have hHeld:=hB
      refine rd1 7 (fun K hK=>?_)
      go_simp
      refine (HDE.out _ (hB)).mono ?_
      rintro e' x723 ⟨rfl,hd723⟩
      dsimp only
      have hc723:=upT hB hd723
      replace r6:=upR hd723 r6
      replace r15:=upR hd723 r15
      refine hK.out _ _ hc723 (fun hHeld=>?_)
      clear hK K
      try simp only [Act.put,z_1,z_2,z_3,z_4,z_5,z_6,z_7]
      exact K406.out y6 y15 x723 ⟨hc723,r6,b6,r15,b15⟩
     case t405 =>
      rintro y6 V ⟨hB,r6,b6⟩
      have hHeld:=hB
      refine rd2 8 13 (fun K hK=>?_) (fun K hK=>?_)
      ·go_simp
       refine (HRO.out _ (hB)).mono ?_
       rintro e' x724 ⟨rfl,hd724⟩
       dsimp only
       have hc724:=upT hB hd724
       replace r6:=upR hd724 r6
       refine hK.out _ _ hc724 (fun hHeld=>?_)
       clear hK K
       try simp only [Act.put,z_1,z_2,z_3,z_4,z_5,z_6,z_7]
       exact K408.out y6 x724 ⟨hc724,r6,b6⟩
      ·have zr:=zero_root
       go_simp
       obtain ⟨x725,y15,hx,ey,r15,hd725,b15⟩:=upN2 hB (.cells (vs .u8 32 fun _=>0) 24)
       rw [hx,ey]
       have l725:=Nat.le_of_eq ey
       clear hx ey zr
       have hc725:=upT hB hd725
       replace r6:=upR hd725 r6
       refine hK.out _ _ hc725 (fun hHeld=>?_)
       clear hK K
       try simp only [Act.put,z_1,z_2,z_3,z_4,z_5,z_6,z_7]
       exact K406.out y6 y15 x725 ⟨hc725,r6,b6,r15,b15⟩
     case t406 =>
      rintro y6 y15 V ⟨hB,r6,b6,r15,b15⟩
      have hHeld:=hB
      refine rd1 8 (fun K hK=>?_)
      go_simp
      refine (HRO.out _ (hB)).mono ?_
      rintro e' x726 ⟨rfl,hd726⟩
      dsimp only
      have hc726:=upT hB hd726
      replace r6:=upR hd726 r6
      replace r15:=upR hd726 r15
      refine hK.out _ _ hc726 (fun hHeld=>?_)
      clear hK K
      try simp only [Act.put,z_1,z_2,z_3,z_4,z_5,z_6,z_7]
      exact K409.out y6 y15 x726 ⟨hc726,r6,b6,r15,b15⟩
     case t407 =>
      rintro y15 V ⟨hB,r15,b15⟩
      have hHeld:=hB
      refine rd1 3 (fun K hK=>?_)
      have zr:=bsK_1 V KF
      go_simp
      obtain ⟨x727,y6,hx,ey,r6,hd727,b6⟩:=upN2 hB (.cells (vs .u8 48 KF) 44)
      rw [hx,ey]
      have l727:=Nat.le_of_eq ey
      clear hx ey zr
      have hc727:=upT hB hd727
      replace r15:=upR hd727 r15
      refine hK.out _ _ hc727 (fun hHeld=>?_)
      clear hK K
      try simp only [Act.put,z_1,z_2,z_3,z_4,z_5,z_6,z_7]
      exact K409.out y6 y15 x727 ⟨hc727,r6,b6,r15,b15⟩
     case t408 =>
      rintro y6 V ⟨hB,r6,b6⟩
      have hHeld:=hB
      refine rd2 12 13 (fun K hK=>?_) (fun K hK=>?_)
      ·go_simp
       refine (HQU.out _ y6 (hB) r6).mono ?_
       rintro e' x728 ⟨rfl,hd728⟩
       dsimp only
       have hc728:=upT hB hd728
       replace r6:=upR hd728 r6
       refine hK.out _ _ hc728 (fun hHeld=>?_)
       clear hK K
       try simp only [Act.put,z_1,z_2,z_3,z_4,z_5,z_6,z_7]
       refine rd1 13 (fun K hK=>?_)
       have zr:=zero_root
       go_simp
       obtain ⟨x729,y15,hx,ey,r15,hd729,b15⟩:=upN2 hc728 (.cells (vs .u8 32 fun _=>0) 24)
       rw [hx,ey]
       have l729:=Nat.le_of_eq ey
       clear hx ey zr
       have hc729:=upT hc728 hd729
       replace r6:=upR hd729 r6
       refine hK.out _ _ hc729 (fun hHeld=>?_)
       clear hK K
       try simp only [Act.put,z_1,z_2,z_3,z_4,z_5,z_6,z_7]
       exact K410.out y6 y15 x729 ⟨hc729,r6,b6,r15,b15⟩
      ·have zr:=zero_root
       go_simp
       obtain ⟨x730,y15,hx,ey,r15,hd730,b15⟩:=upN2 hB (.cells (vs .u8 32 fun _=>0) 24)
       rw [hx,ey]
       have l730:=Nat.le_of_eq ey
       clear hx ey zr
       have hc730:=upT hB hd730
       replace r6:=upR hd730 r6
       refine hK.out _ _ hc730 (fun hHeld=>?_)
       clear hK K
       try simp only [Act.put,z_1,z_2,z_3,z_4,z_5,z_6,z_7]
       exact K409.out y6 y15 x730 ⟨hc730,r6,b6,r15,b15⟩
     case t409 =>
      rintro y6 y15 V ⟨hB,r6,b6,r15,b15⟩
      have hHeld:=hB
      refine rd1 12 (fun K hK=>?_)
      go_simp
      refine (HQU.out _ y6 (hB) r6).mono ?_
      rintro e' x731 ⟨rfl,hd731⟩
      dsimp only
      have hc731:=upT hB hd731
      replace r6:=upR hd731 r6
      replace r15:=upR hd731 r15
      refine hK.out _ _ hc731 (fun hHeld=>?_)
      clear hK K
      try simp only [Act.put,z_1,z_2,z_3,z_4,z_5,z_6,z_7]
      exact K410.out y6 y15 x731 ⟨hc731,r6,b6,r15,b15⟩
     case t410 =>
      rintro y6 y15 V ⟨hB,r6,b6,r15,b15⟩
      have hHeld:=hB
      refine wpAnyH_ready (rs:=[14]) (by kernel_rfl) (by simp) ?_
      refine AllReadyH.cons rfl (fun K hK=>?_) AllReadyH.nil
      have v3:=sv24_run r15 QV
      go_simp
      have hce:Up V5 _:=below_row (hB) b15 (vs .u8 32 QV)
      refine hK.out _ _ hce (fun hHeld=>?_)
      clear hK K
      try simp only [Act.put,z_1,z_2,z_3,z_4,z_5,z_6,z_7]
      refine wpAnyH_done (by kernel_rfl) ?_ _
      refine NoPanic.normal ?_
      go_wp2
      go_meet
      exact ⟨_,rfl,setRow_at r15,hce,b15⟩
    case rest =>
     obtain ⟨y16,rfl,rq,hcw,yb⟩:=hcut
     have lq:=lv24_run rq
     have bs1:=fun W=>bs22_1 W QV
     obtain ⟨V6,y17,hW6,ey6,r17,hd6,b17⟩:=upN2 hcw (.cells (vs .u8 32 QV) 24)
     have hu6:=upT hcw hd6
     have lq6:=lv24_run (upR hd6 rq)
     have HG6:=hid (HGO.out V6 hu6)
     have HU6:=hid hu6
     have R17:=hid r17
     have y17s:w.heap.size+2 < y17:=Nat.lt_of_lt_of_le HSZ.out b17
     have y17y:y17≠y:=by have:=HYB.out;omega
     clear HLK HLD HLS HME HDE HRO HQU HGO rq r17 hcw hd6 hu6 b17 yb HYB
     go_upto_region 18 with fail
     clear hW6 ey6 bs1 lq
     cases hG:gdB QV f n
     ·rw [hG] at HG6
      have hTE:=HTE.out
      have hTK:=HTK.out
      rw [hG,if_neg (by simp)] at hTE hTK
      have hEE:=HEE.out
      rw [hTE,if_pos rfl] at hEE
      rw [hTK] at HTS HOK
      replace HEE:=hid hEE
      clear hTE hTK hEE hG HTE HTK HTX HL HNX HBD HC5 HS2
      go_upto_region 31 with (go_at_call 27;refine HG6.out.mono ?_;rintro e' VF ⟨rfl,hb7⟩)
      have HB6:=hid (HB5.out.below (upT HU6.out hb7))
      have RQF:=hid (upR hb7 R17.out)
      clear HG6 lq6 hb7 R17 HB5 HU6 HU5 P15
      obtain ⟨P,eP⟩:∃ Z,Y=Z:=⟨_,rfl⟩
      rw [eP] at HB6 HTS HOK
      clear eP
      have hbp:=HB6.out
      have hdn:=rdone_any P 0 VF HOK.out hbp.inW
      obtain ⟨hE0,hS0⟩:=dn_fin HTS.out HEE.out HES.out
      rw [hE0] at hdn
      have q2:=hbp.old Q2.out (by have:=HY.out;have:=some_ltK Q2.out;omega)
      have ly:=lvState_run hbp.row
      have hres:=fun (W:World) (h:Up VF W) c=>dn_res hbp h (upR h q2) HUX.out.size hS0 c
      have HU6:=hid (HUX.out.trans (hbp.kep.below (B:=w.heap.size) (by have:=HY.out;have:=some_ltK Q2.out;omega) HUX.out.size))
      obtain ⟨D,eD⟩:∃ Z,dnS P 0=Z:=⟨_,rfl⟩
      rw [eD] at hdn
      simp only [eD] at hres
      have HDN:=hid hdn
      have HRES:=hid hres
      have R6:=hid q2
      clear hbp hdn hE0 hS0 q2 hres eD HB6 HTS HOK HEE HES
      go_upto_region 32 with (go_at_call 22;refine HDN.out.mono ?_;rintro e' w7 ⟨rfl,hb7⟩;have z:=zeroState;have sv:=svState_newv w7 oState D)
      obtain ⟨W8,y8,hW8,ey8,r8,hd8,b8⟩:=upN2 hb7 (.cells (cel (sState D)) 49)
      rw [hW8,ey8]
      have h68:=upT hb7 hd8
      have lx8:=lvState_run r8
      have s8:=svState_run (upR h68 R6.out) D
      clear hW8 ey8 sv z
      go_wp2
      have rqf:(W8.setRow (w.heap.size+2) (cel (sState D))).heap[y17]?=some (.cells (vs .u8 32 QV) 24):=by rw [setRow_other (by omega)];exact upR h68 RQF.out
      exact retState3 6 7 8 (w.heap.size+2) D 49 (.slice (some ⟨y17,0,none⟩) 1 1) (.int .i64 EE) rfl rfl rfl rfl rfl (setRow_at (upR h68 R6.out)) ⟨D,_,_,rfl,HRES.out _ h68 _,.inr (.inr ⟨y17,0,rfl,by omega,some_ltK rqf,fun j hj=>by rw [Nat.zero_add];exact row_int rqf j hj⟩),.inr ⟨_,rfl,(show w.heap.size≤y17 by omega)⟩,below_row (upT HU6.out h68) (by omega) _⟩
     ·rw [hG] at HG6
      have hTE:=HTE.out
      rw [hG,if_pos rfl] at hTE
      have hTX:=HTX.out
      rw [hG,if_pos rfl] at hTX
      go_upto_region 19 with (go_at_call 27;refine HG6.out.mono ?_;rintro e' V7 ⟨rfl,hb7⟩)
      have hu7:=upT HU6.out hb7
      have c7:=HC5.out V7 hu7
      have HB7:=hid (HB5.out.below hu7)
      have DR7:=hid (upR hu7 P15.out)
      have RQ7:=hid (upR hb7 R17.out)
      have q2:=HB7.out.old Q2.out (by have:=HSZ.out;have:=HY.out;have:=some_ltK Q2.out;omega)
      have HU7:=hid (upT HU5.out hu7)
      clear HG6 lq6 hb7 hu7 R17 HB5 HU6 HU5 P15 HC5 hG HTE HTX HTK
      have hEE:=HEE.out
      rw [hTE] at hEE
      by_cases hn6:65536≤x.f11.n
      ·have hn6':(65536:Int)≤(x.f11.n:Int):=by omega
       rw [if_pos hn6] at hEE
       obtain rfl:EE=6:=hEE
       obtain rfl:SS=oState:=HES.out
       have s7:=svState_run q2 oState
       have z:=zeroState
       have bz:=bdState_0
       clear HTS HOK HS2 HEE HES
       go_wp2
       have rqf:(V7.setRow (w.heap.size+2) (cel (sState oState))).heap[y17]?=some (.cells (vs .u8 32 QV) 24):=by rw [setRow_other (by omega)];exact RQ7.out
       exact retState3 6 7 8 (w.heap.size+2) oState 49 (.slice (some ⟨y17,0,none⟩) 1 1) (.int .i64 6) rfl rfl rfl rfl rfl (setRow_at q2) ⟨oState,_,_,rfl,resO _ _,.inr (.inr ⟨y17,0,rfl,by omega,some_ltK rqf,fun j hj=>by rw [Nat.zero_add];exact row_int rqf j hj⟩),.inr ⟨_,rfl,(show w.heap.size≤y17 by omega)⟩,below_row HU7.out (by omega) _⟩
      ·have hn6':¬ (65536:Int)≤(x.f11.n:Int):=by omega
       rw [if_neg hn6] at hEE
       by_cases hm:144115188075855872 < d.f1.f2
       ·rw [if_pos hm] at hEE
        obtain rfl:EE=2:=hEE
        obtain rfl:SS=oState:=HES.out
        have s7:=svState_run q2 oState
        have z:=zeroState
        have bz:=bdState_0
        clear HTS HOK HS2 HEE HES
        go_wp2
        have rqf:(V7.setRow (w.heap.size+2) (cel (sState oState))).heap[y17]?=some (.cells (vs .u8 32 QV) 24):=by rw [setRow_other (by omega)];exact RQ7.out
        exact retState3 6 7 8 (w.heap.size+2) oState 49 (.slice (some ⟨y17,0,none⟩) 1 1) (.int .i64 2) rfl rfl rfl rfl rfl (setRow_at q2) ⟨oState,_,_,rfl,resO _ _,.inr (.inr ⟨y17,0,rfl,by omega,some_ltK rqf,fun j hj=>by rw [Nat.zero_add];exact row_int rqf j hj⟩),.inr ⟨_,rfl,(show w.heap.size≤y17 by omega)⟩,below_row HU7.out (by omega) _⟩
       ·rw [if_neg hm,if_pos rfl] at hEE
        replace HEE:=hid hEE
        have n0:=HBD.out.2.2.1.1
        have n1:=HBD.out.2.2.1.2
        have hmod:d.f1.f2.tmod 1000000000=d.f1.f2 % 1000000000:=Int.tmod_eq_emod_of_nonneg n0
        have k1:IntKind.u64.wrap (d.f1.f2 % 1000000000)=d.f1.f2 % 1000000000:=by rw [IntKind.wrap_u64];omega
        have k2:IntKind.u64.wrap (d.f1.f2 - d.f1.f2 % 1000000000)=d.f1.f2 - d.f1.f2 % 1000000000:=by rw [IntKind.wrap_u64];omega
        have HTX:=hid hTX
        clear hEE hTE hTX q2 HTS HOK
        by_cases he:32000000000 < d.f1.f2 - d.f1.f2 % 1000000000
        ·have ef:efV d.f1.f2=32000000000:=by unfold efV;omega
         have lk7:=dp_key DR7.out
         have lc7:=dp_crd DR7.out
         have bv:=fun W=>bdVa_nv W d.f1 _ ef
         obtain ⟨NV,eNV⟩:∃ v,nvV d.f1=v:=⟨_,rfl⟩
         simp only [eNV] at bv
         have HBK:=HB7
         have HKP:=hid (KpL.of (y:=y) (Below.refl V7.heap.size V7))
         have HL11:=hid HL.out.1
         have HL12:=hid HL.out.2.1
         have HL15:=hid HL.out.2.2.1
         have HL16:=hid HL.out.2.2.2.1
         have HL21:=hid HL.out.2.2.2.2
         have NVE:=hid eNV
         clear eNV n0 n1 HB7 HU7
         go_upto_region 26 with fail
         clear c7 hmod k1 k2 he hn6 hn6' hm
         obtain ⟨U11,hU11⟩:∃ W,World.alloc V7 (.cells (cel (sValidator NV)) 74)=W:=⟨_,rfl⟩
         have r11:U11.heap[V7.heap.size]?=some (.cells (cel (sValidator NV)) 74):=by rw [←hU11];exact heap_new rfl
         have hd11:Up V7 U11:=by rw [←hU11];exact (Below.refl _ _).alloc (Nat.le_refl _) _
         have l11:=cS11 HBK.out.row
         obtain ⟨a11,c11,x11,hr11,hb11,⟨u11,hc11⟩,hf11,_,hk11⟩:=(HBK.out.below hd11).at11 HL11.out NV r11 36
         have HR11:=hid hr11
         have zb11:=bsVa_1 V7 NV
         clear hr11 r11
         go_upto_region 27 with (at_builtin;refine wpB_app_is rfl 36 _ _ rfl _ _ _ _ rfl rfl HR11.out ?_)
         obtain ⟨V8,hV11⟩:∃ W,x11.setCell ⟨y,721,none⟩ (.slice a11 (Y.f11.n+1) c11)=W:=⟨_,rfl⟩
         rw [hV11] at hb11 hk11 ⊢
         obtain ⟨X1,eX1⟩:∃ Z,mr11 Y a11 c11 NV=Z:=⟨_,rfl⟩
         rw [eX1] at hb11
         replace HL12:=hid (show X1.f12.n≤65536 by rw [←eX1];exact HL12.out)
         replace HL15:=hid (show X1.f15.n≤65536 by rw [←eX1];exact HL15.out)
         replace HL16:=hid (show X1.f16.n≤65536 by rw [←eX1];exact HL16.out)
         replace HL21:=hid (show X1.f21.n≤65536 by rw [←eX1];exact HL21.out)
         replace HKP:=hid (HKP.out.trans ((KpL.of hd11).trans hk11))
         replace HBK:=hid hb11
         clear hb11 hk11 hc11 hf11 hU11 hd11 hV11 l11 HR11 zb11
         clear lk7 lc7 bv ef
         have camt8:True:=trivial
         obtain ⟨U12,hU12⟩:∃ W,World.alloc V8 (.cells #[.int .u64 d.f1.f2] 22)=W:=⟨_,rfl⟩
         have r12:U12.heap[V8.heap.size]?=some (.cells #[.int .u64 d.f1.f2] 22):=by rw [←hU12];exact heap_new rfl
         have hd12:Up V8 U12:=by rw [←hU12];exact (Below.refl _ _).alloc (Nat.le_refl _) _
         have l12:=cS12 HBK.out.row
         obtain ⟨a12,c12,x12,hr12,hb12,⟨u12,hc12⟩,hf12,_,hk12⟩:=(HBK.out.below hd12).at12 HL12.out d.f1.f2 r12 37
         have HR12:=hid hr12
         have zb12:=bsNu_1 V8 d.f1.f2
         clear hr12 r12
         go_upto_region 28 with (at_builtin;refine wpB_app_is rfl 37 _ _ rfl _ _ _ _ rfl rfl HR12.out ?_)
         obtain ⟨V9,hV12⟩:∃ W,x12.setCell ⟨y,722,none⟩ (.slice a12 (X1.f12.n+1) c12)=W:=⟨_,rfl⟩
         rw [hV12] at hb12 hk12 ⊢
         obtain ⟨X2,eX2⟩:∃ Z,mr12 X1 a12 c12 d.f1.f2=Z:=⟨_,rfl⟩
         rw [eX2] at hb12
         replace HL15:=hid (show X2.f15.n≤65536 by rw [←eX2];exact HL15.out)
         replace HL16:=hid (show X2.f16.n≤65536 by rw [←eX2];exact HL16.out)
         replace HL21:=hid (show X2.f21.n≤65536 by rw [←eX2];exact HL21.out)
         replace HKP:=hid (HKP.out.trans ((KpL.of hd12).trans hk12))
         replace HBK:=hid hb12
         clear hb12 hk12 hc12 hf12 hU12 hd12 hV12 l12 HR12 zb12
         obtain ⟨U15,hU15⟩:∃ W,World.alloc V9 (.cells #[.int .u8 0] 5)=W:=⟨_,rfl⟩
         have r15:U15.heap[V9.heap.size]?=some (.cells #[.int .u8 0] 5):=by rw [←hU15];exact heap_new rfl
         have hd15:Up V9 U15:=by rw [←hU15];exact (Below.refl _ _).alloc (Nat.le_refl _) _
         have l15:=cS15 HBK.out.row
         obtain ⟨a15,c15,x15,hr15,hb15,⟨u15,hc15⟩,hf15,_,hk15⟩:=(HBK.out.below hd15).at15 HL15.out 0 r15 39
         have HR15:=hid hr15
         have zb15:=bsBy_1 V9 0
         clear hr15 r15
         go_upto_region 29 with (at_builtin;refine wpB_app_is rfl 39 _ _ rfl _ _ _ _ rfl rfl HR15.out ?_)
         obtain ⟨V10,hV15⟩:∃ W,x15.setCell ⟨y,987,none⟩ (.slice a15 (X2.f15.n+1) c15)=W:=⟨_,rfl⟩
         rw [hV15] at hb15 hk15 ⊢
         obtain ⟨X3,eX3⟩:∃ Z,mr15 X2 a15 c15 0=Z:=⟨_,rfl⟩
         rw [eX3] at hb15
         replace HL16:=hid (show X3.f16.n≤65536 by rw [←eX3];exact HL16.out)
         replace HL21:=hid (show X3.f21.n≤65536 by rw [←eX3];exact HL21.out)
         replace HKP:=hid (HKP.out.trans ((KpL.of hd15).trans hk15))
         replace HBK:=hid hb15
         clear hb15 hk15 hc15 hf15 hU15 hd15 hV15 l15 HR15 zb15
         obtain ⟨U16,hU16⟩:∃ W,World.alloc V10 (.cells #[.int .u8 0] 5)=W:=⟨_,rfl⟩
         have r16:U16.heap[V10.heap.size]?=some (.cells #[.int .u8 0] 5):=by rw [←hU16];exact heap_new rfl
         have hd16:Up V10 U16:=by rw [←hU16];exact (Below.refl _ _).alloc (Nat.le_refl _) _
         have l16:=cS16 HBK.out.row
         obtain ⟨a16,c16,x16,hr16,hb16,⟨u16,hc16⟩,hf16,_,hk16⟩:=(HBK.out.below hd16).at16 HL16.out 0 r16 39
         have HR16:=hid hr16
         have zb16:=bsBy_1 V10 0
         clear hr16 r16
         go_upto_region 30 with (at_builtin;refine wpB_app_is rfl 39 _ _ rfl _ _ _ _ rfl rfl HR16.out ?_)
         obtain ⟨V11,hV16⟩:∃ W,x16.setCell ⟨y,988,none⟩ (.slice a16 (X3.f16.n+1) c16)=W:=⟨_,rfl⟩
         rw [hV16] at hb16 hk16 ⊢
         obtain ⟨X4,eX4⟩:∃ Z,mr16 X3 a16 c16 0=Z:=⟨_,rfl⟩
         rw [eX4] at hb16
         replace HL21:=hid (show X4.f21.n≤65536 by rw [←eX4];exact HL21.out)
         replace HKP:=hid (HKP.out.trans ((KpL.of hd16).trans hk16))
         replace HBK:=hid hb16
         clear hb16 hk16 hc16 hf16 hU16 hd16 hV16 l16 HR16 zb16
         obtain ⟨U21,hU21⟩:∃ W,World.alloc V11 (.cells #[.int .u64 0] 22)=W:=⟨_,rfl⟩
         have r21:U21.heap[V11.heap.size]?=some (.cells #[.int .u64 0] 22):=by rw [←hU21];exact heap_new rfl
         have hd21:Up V11 U21:=by rw [←hU21];exact (Below.refl _ _).alloc (Nat.le_refl _) _
         have l21:=cS21 HBK.out.row
         obtain ⟨a21,c21,x21,hr21,hb21,⟨u21,hc21⟩,hf21,_,hk21⟩:=(HBK.out.below hd21).at21 HL21.out 0 r21 37
         have HR21:=hid hr21
         have zb21:=bsNu_1 V11 0
         clear hr21 r21
         go_upto_region 31 with (at_builtin;refine wpB_app_is rfl 37 _ _ rfl _ _ _ _ rfl rfl HR21.out ?_)
         obtain ⟨VF,hV21⟩:∃ W,x21.setCell ⟨y,1092,none⟩ (.slice a21 (X4.f21.n+1) c21)=W:=⟨_,rfl⟩
         rw [hV21] at hb21 hk21 ⊢
         obtain ⟨P,eP⟩:∃ Z,mr21 X4 a21 c21 0=Z:=⟨_,rfl⟩
         rw [eP] at hb21
         replace HKP:=hid (HKP.out.trans ((KpL.of hd21).trans hk21))
         replace HBK:=hid hb21
         clear hb21 hk21 hc21 hf21 hU21 hd21 hV21 l21 HR21 zb21
         have HTS:=hid (show SimF (tkS (upS x) d.f1 f n) P by rw [←eP,←eX4,←eX3,←eX2,←eX1,←NVE.out,HTX.out];exact en_sim HS2.out d.f1 a11 a12 a15 a16 a21 c11 c12 c15 c16 c21)
         have HOK:=hid (okF_sim HTS.out (tk_ok (ok_up HX.out) HBD.out f n))
         have HB6:=HBK
         have RQF:=hid (HKP.out _ _ _ RQ7.out (by decide) (by decide) (by decide) y17y)
         clear HBK HKP RQ7 DR7 eP eX4 eX3 eX2 eX1 NVE HTX HS2
         have hbp:=HB6.out
         have hdn:=rdone_any P 0 VF HOK.out hbp.inW
         obtain ⟨hE0,hS0⟩:=dn_fin HTS.out HEE.out HES.out
         rw [hE0] at hdn
         have q2:=hbp.old Q2.out (by have:=HY.out;have:=some_ltK Q2.out;omega)
         have ly:=lvState_run hbp.row
         have hres:=fun (W:World) (h:Up VF W) c=>dn_res hbp h (upR h q2) HUX.out.size hS0 c
         have HU6:=hid (HUX.out.trans (hbp.kep.below (B:=w.heap.size) (by have:=HY.out;have:=some_ltK Q2.out;omega) HUX.out.size))
         obtain ⟨D,eD⟩:∃ Z,dnS P 0=Z:=⟨_,rfl⟩
         rw [eD] at hdn
         simp only [eD] at hres
         have HDN:=hid hdn
         have HRES:=hid hres
         have R6:=hid q2
         clear hbp hdn hE0 hS0 q2 hres eD HB6 HTS HOK HEE HES
         go_upto_region 32 with (go_at_call 22;refine HDN.out.mono ?_;rintro e' w7 ⟨rfl,hb7⟩;have z:=zeroState;have sv:=svState_newv w7 oState D)
         obtain ⟨W8,y8,hW8,ey8,r8,hd8,b8⟩:=upN2 hb7 (.cells (cel (sState D)) 49)
         rw [hW8,ey8]
         have h68:=upT hb7 hd8
         have lx8:=lvState_run r8
         have s8:=svState_run (upR h68 R6.out) D
         clear hW8 ey8 sv z
         go_wp2
         have rqf:(W8.setRow (w.heap.size+2) (cel (sState D))).heap[y17]?=some (.cells (vs .u8 32 QV) 24):=by rw [setRow_other (by omega)];exact upR h68 RQF.out
         exact retState3 6 7 8 (w.heap.size+2) D 49 (.slice (some ⟨y17,0,none⟩) 1 1) (.int .i64 EE) rfl rfl rfl rfl rfl (setRow_at (upR h68 R6.out)) ⟨D,_,_,rfl,HRES.out _ h68 _,.inr (.inr ⟨y17,0,rfl,by omega,some_ltK rqf,fun j hj=>by rw [Nat.zero_add];exact row_int rqf j hj⟩),.inr ⟨_,rfl,(show w.heap.size≤y17 by omega)⟩,below_row (upT HU6.out h68) (by omega) _⟩
        ·have ef:efV d.f1.f2=d.f1.f2 - d.f1.f2 % 1000000000:=by unfold efV;omega
         have lk7:=dp_key DR7.out
         have lc7:=dp_crd DR7.out
         have bv:=fun W=>bdVa_nv W d.f1 _ ef
         obtain ⟨NV,eNV⟩:∃ v,nvV d.f1=v:=⟨_,rfl⟩
         simp only [eNV] at bv
         have HBK:=HB7
         have HKP:=hid (KpL.of (y:=y) (Below.refl V7.heap.size V7))
         have HL11:=hid HL.out.1
         have HL12:=hid HL.out.2.1
         have HL15:=hid HL.out.2.2.1
         have HL16:=hid HL.out.2.2.2.1
         have HL21:=hid HL.out.2.2.2.2
         have NVE:=hid eNV
         clear eNV n0 n1 HB7 HU7
         go_upto_region 26 with fail
         clear c7 hmod k1 k2 he hn6 hn6' hm
         obtain ⟨U11,hU11⟩:∃ W,World.alloc V7 (.cells (cel (sValidator NV)) 74)=W:=⟨_,rfl⟩
         have r11:U11.heap[V7.heap.size]?=some (.cells (cel (sValidator NV)) 74):=by rw [←hU11];exact heap_new rfl
         have hd11:Up V7 U11:=by rw [←hU11];exact (Below.refl _ _).alloc (Nat.le_refl _) _
         have l11:=cS11 HBK.out.row
         obtain ⟨a11,c11,x11,hr11,hb11,⟨u11,hc11⟩,hf11,_,hk11⟩:=(HBK.out.below hd11).at11 HL11.out NV r11 36
         have HR11:=hid hr11
         have zb11:=bsVa_1 V7 NV
         clear hr11 r11
         go_upto_region 27 with (at_builtin;refine wpB_app_is rfl 36 _ _ rfl _ _ _ _ rfl rfl HR11.out ?_)
         obtain ⟨V8,hV11⟩:∃ W,x11.setCell ⟨y,721,none⟩ (.slice a11 (Y.f11.n+1) c11)=W:=⟨_,rfl⟩
         rw [hV11] at hb11 hk11 ⊢
         obtain ⟨X1,eX1⟩:∃ Z,mr11 Y a11 c11 NV=Z:=⟨_,rfl⟩
         rw [eX1] at hb11
         replace HL12:=hid (show X1.f12.n≤65536 by rw [←eX1];exact HL12.out)
         replace HL15:=hid (show X1.f15.n≤65536 by rw [←eX1];exact HL15.out)
         replace HL16:=hid (show X1.f16.n≤65536 by rw [←eX1];exact HL16.out)
         replace HL21:=hid (show X1.f21.n≤65536 by rw [←eX1];exact HL21.out)
         replace HKP:=hid (HKP.out.trans ((KpL.of hd11).trans hk11))
         replace HBK:=hid hb11
         clear hb11 hk11 hc11 hf11 hU11 hd11 hV11 l11 HR11 zb11
         clear lk7 lc7 bv ef
         have camt8:True:=trivial
         obtain ⟨U12,hU12⟩:∃ W,World.alloc V8 (.cells #[.int .u64 d.f1.f2] 22)=W:=⟨_,rfl⟩
         have r12:U12.heap[V8.heap.size]?=some (.cells #[.int .u64 d.f1.f2] 22):=by rw [←hU12];exact heap_new rfl
         have hd12:Up V8 U12:=by rw [←hU12];exact (Below.refl _ _).alloc (Nat.le_refl _) _
         have l12:=cS12 HBK.out.row
         obtain ⟨a12,c12,x12,hr12,hb12,⟨u12,hc12⟩,hf12,_,hk12⟩:=(HBK.out.below hd12).at12 HL12.out d.f1.f2 r12 37
         have HR12:=hid hr12
         have zb12:=bsNu_1 V8 d.f1.f2
         clear hr12 r12
         go_upto_region 28 with (at_builtin;refine wpB_app_is rfl 37 _ _ rfl _ _ _ _ rfl rfl HR12.out ?_)
         obtain ⟨V9,hV12⟩:∃ W,x12.setCell ⟨y,722,none⟩ (.slice a12 (X1.f12.n+1) c12)=W:=⟨_,rfl⟩
         rw [hV12] at hb12 hk12 ⊢
         obtain ⟨X2,eX2⟩:∃ Z,mr12 X1 a12 c12 d.f1.f2=Z:=⟨_,rfl⟩
         rw [eX2] at hb12
         replace HL15:=hid (show X2.f15.n≤65536 by rw [←eX2];exact HL15.out)
         replace HL16:=hid (show X2.f16.n≤65536 by rw [←eX2];exact HL16.out)
         replace HL21:=hid (show X2.f21.n≤65536 by rw [←eX2];exact HL21.out)
         replace HKP:=hid (HKP.out.trans ((KpL.of hd12).trans hk12))
         replace HBK:=hid hb12
         clear hb12 hk12 hc12 hf12 hU12 hd12 hV12 l12 HR12 zb12
         obtain ⟨U15,hU15⟩:∃ W,World.alloc V9 (.cells #[.int .u8 0] 5)=W:=⟨_,rfl⟩
         have r15:U15.heap[V9.heap.size]?=some (.cells #[.int .u8 0] 5):=by rw [←hU15];exact heap_new rfl
         have hd15:Up V9 U15:=by rw [←hU15];exact (Below.refl _ _).alloc (Nat.le_refl _) _
         have l15:=cS15 HBK.out.row
         obtain ⟨a15,c15,x15,hr15,hb15,⟨u15,hc15⟩,hf15,_,hk15⟩:=(HBK.out.below hd15).at15 HL15.out 0 r15 39
         have HR15:=hid hr15
         have zb15:=bsBy_1 V9 0
         clear hr15 r15
         go_upto_region 29 with (at_builtin;refine wpB_app_is rfl 39 _ _ rfl _ _ _ _ rfl rfl HR15.out ?_)
         obtain ⟨V10,hV15⟩:∃ W,x15.setCell ⟨y,987,none⟩ (.slice a15 (X2.f15.n+1) c15)=W:=⟨_,rfl⟩
         rw [hV15] at hb15 hk15 ⊢
         obtain ⟨X3,eX3⟩:∃ Z,mr15 X2 a15 c15 0=Z:=⟨_,rfl⟩
         rw [eX3] at hb15
         replace HL16:=hid (show X3.f16.n≤65536 by rw [←eX3];exact HL16.out)
         replace HL21:=hid (show X3.f21.n≤65536 by rw [←eX3];exact HL21.out)
         replace HKP:=hid (HKP.out.trans ((KpL.of hd15).trans hk15))
         replace HBK:=hid hb15
         clear hb15 hk15 hc15 hf15 hU15 hd15 hV15 l15 HR15 zb15
         obtain ⟨U16,hU16⟩:∃ W,World.alloc V10 (.cells #[.int .u8 0] 5)=W:=⟨_,rfl⟩
         have r16:U16.heap[V10.heap.size]?=some (.cells #[.int .u8 0] 5):=by rw [←hU16];exact heap_new rfl
         have hd16:Up V10 U16:=by rw [←hU16];exact (Below.refl _ _).alloc (Nat.le_refl _) _
         have l16:=cS16 HBK.out.row
         obtain ⟨a16,c16,x16,hr16,hb16,⟨u16,hc16⟩,hf16,_,hk16⟩:=(HBK.out.below hd16).at16 HL16.out 0 r16 39
         have HR16:=hid hr16
         have zb16:=bsBy_1 V10 0
         clear hr16 r16
         go_upto_region 30 with (at_builtin;refine wpB_app_is rfl 39 _ _ rfl _ _ _ _ rfl rfl HR16.out ?_)
         obtain ⟨V11,hV16⟩:∃ W,x16.setCell ⟨y,988,none⟩ (.slice a16 (X3.f16.n+1) c16)=W:=⟨_,rfl⟩
         rw [hV16] at hb16 hk16 ⊢
         obtain ⟨X4,eX4⟩:∃ Z,mr16 X3 a16 c16 0=Z:=⟨_,rfl⟩
         rw [eX4] at hb16
         replace HL21:=hid (show X4.f21.n≤65536 by rw [←eX4];exact HL21.out)
         replace HKP:=hid (HKP.out.trans ((KpL.of hd16).trans hk16))
         replace HBK:=hid hb16
         clear hb16 hk16 hc16 hf16 hU16 hd16 hV16 l16 HR16 zb16
         obtain ⟨U21,hU21⟩:∃ W,World.alloc V11 (.cells #[.int .u64 0] 22)=W:=⟨_,rfl⟩
         have r21:U21.heap[V11.heap.size]?=some (.cells #[.int .u64 0] 22):=by rw [←hU21];exact heap_new rfl
         have hd21:Up V11 U21:=by rw [←hU21];exact (Below.refl _ _).alloc (Nat.le_refl _) _
         have l21:=cS21 HBK.out.row
         obtain ⟨a21,c21,x21,hr21,hb21,⟨u21,hc21⟩,hf21,_,hk21⟩:=(HBK.out.below hd21).at21 HL21.out 0 r21 37
         have HR21:=hid hr21
         have zb21:=bsNu_1 V11 0
         clear hr21 r21
         go_upto_region 31 with (at_builtin;refine wpB_app_is rfl 37 _ _ rfl _ _ _ _ rfl rfl HR21.out ?_)
         obtain ⟨VF,hV21⟩:∃ W,x21.setCell ⟨y,1092,none⟩ (.slice a21 (X4.f21.n+1) c21)=W:=⟨_,rfl⟩
         rw [hV21] at hb21 hk21 ⊢
         obtain ⟨P,eP⟩:∃ Z,mr21 X4 a21 c21 0=Z:=⟨_,rfl⟩
         rw [eP] at hb21
         replace HKP:=hid (HKP.out.trans ((KpL.of hd21).trans hk21))
         replace HBK:=hid hb21
         clear hb21 hk21 hc21 hf21 hU21 hd21 hV21 l21 HR21 zb21
         have HTS:=hid (show SimF (tkS (upS x) d.f1 f n) P by rw [←eP,←eX4,←eX3,←eX2,←eX1,←NVE.out,HTX.out];exact en_sim HS2.out d.f1 a11 a12 a15 a16 a21 c11 c12 c15 c16 c21)
         have HOK:=hid (okF_sim HTS.out (tk_ok (ok_up HX.out) HBD.out f n))
         have HB6:=HBK
         have RQF:=hid (HKP.out _ _ _ RQ7.out (by decide) (by decide) (by decide) y17y)
         clear HBK HKP RQ7 DR7 eP eX4 eX3 eX2 eX1 NVE HTX HS2
         have hbp:=HB6.out
         have hdn:=rdone_any P 0 VF HOK.out hbp.inW
         obtain ⟨hE0,hS0⟩:=dn_fin HTS.out HEE.out HES.out
         rw [hE0] at hdn
         have q2:=hbp.old Q2.out (by have:=HY.out;have:=some_ltK Q2.out;omega)
         have ly:=lvState_run hbp.row
         have hres:=fun (W:World) (h:Up VF W) c=>dn_res hbp h (upR h q2) HUX.out.size hS0 c
         have HU6:=hid (HUX.out.trans (hbp.kep.below (B:=w.heap.size) (by have:=HY.out;have:=some_ltK Q2.out;omega) HUX.out.size))
         obtain ⟨D,eD⟩:∃ Z,dnS P 0=Z:=⟨_,rfl⟩
         rw [eD] at hdn
         simp only [eD] at hres
         have HDN:=hid hdn
         have HRES:=hid hres
         have R6:=hid q2
         clear hbp hdn hE0 hS0 q2 hres eD HB6 HTS HOK HEE HES
         go_upto_region 32 with (go_at_call 22;refine HDN.out.mono ?_;rintro e' w7 ⟨rfl,hb7⟩;have z:=zeroState;have sv:=svState_newv w7 oState D)
         obtain ⟨W8,y8,hW8,ey8,r8,hd8,b8⟩:=upN2 hb7 (.cells (cel (sState D)) 49)
         rw [hW8,ey8]
         have h68:=upT hb7 hd8
         have lx8:=lvState_run r8
         have s8:=svState_run (upR h68 R6.out) D
         clear hW8 ey8 sv z
         go_wp2
         have rqf:(W8.setRow (w.heap.size+2) (cel (sState D))).heap[y17]?=some (.cells (vs .u8 32 QV) 24):=by rw [setRow_other (by omega)];exact upR h68 RQF.out
         exact retState3 6 7 8 (w.heap.size+2) D 49 (.slice (some ⟨y17,0,none⟩) 1 1) (.int .i64 EE) rfl rfl rfl rfl rfl (setRow_at (upR h68 R6.out)) ⟨D,_,_,rfl,HRES.out _ h68 _,.inr (.inr ⟨y17,0,rfl,by omega,some_ltK rqf,fun j hj=>by rw [Nat.zero_add];exact row_int rqf j hj⟩),.inr ⟨_,rfl,(show w.heap.size≤y17 by omega)⟩,below_row (upT HU6.out h68) (by omega) _⟩
end Go.Proofs.YtfgmddnfhphdeaaGreatDoor
