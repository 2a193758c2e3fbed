/- A part. -/
import Derived.Test.YtdjplhibmomajaaGreatDoorCoA
import Derived.Test.YtdjplhibmomajaaGreatDoorQO
import Derived.Test.YtdjplhibmomajaaGreatDoorQE
namespace Go.Proofs.YtdjplhibmomajaaGreatDoor
open Go.RowKit
set_option linter.unusedVariables false
set_option linter.unusedSimpArgs false
section
open Go.RowKit
set_option linter.unusedVariables false
set_option linter.unusedSimpArgs false
attribute [local go_sem ↓] aAu aAt aAF aB3 aAQ aAL aC8 aCx aAG
set_option maxRecDepth 20000 in
set_option maxHeartbeats 2000000 in
theorem aFp (x : aB6) (w : World) (hx : aBV x) :
    Calls Tryz.prog 62 #[.agg (cel (aAm x))] w fun e w'=>∃ v,e=.returned (.tuple #[v,.int .i64 0])∧w'.ownsRow w.heap.size 5 1 v 112 (bl (ct7 (aDY x)) 112)∧Below w.heap.size w w':=by
 have HX:=hid hx
 obtain ⟨W0,hW0⟩:∃ W,w.alloc (.cells (cel (aAm x)) 30)=W:=⟨_,rfl⟩
 have hB0:Below w.heap.size w W0:=by rw [←hW0];exact (Below.refl _ _).alloc (Nat.le_refl _) _
 have r0:W0.heap[w.heap.size]?=some (.cells (cel (aAm x)) 30):=by rw [←hW0];exact aA2 rfl
 have z0:w.heap.size < W0.heap.size:=by rw [←hW0];simp
 obtain ⟨y,ey⟩:∃ y,w.heap.size=y:=⟨_,rfl⟩
 have hry:∀ X,Below W0.heap.size W0 X→X.heap[y]?=some (.cells (cel (aAm x)) 30):=fun X h=>by rw [←ey];exact (h.block _ z0).trans r0
 have HL0:Hid (∀ X,Below W0.heap.size W0 X→X.cell? ⟨y,0,none⟩=some (.int .u64 x.f0)):=fun X h=>aAH (hry X h) 0 x.f0 rfl 0 rfl
 have HL1:Hid (∀ X,Below W0.heap.size W0 X→X.cell? ⟨y,1,none⟩=some (.int .u64 x.f1)):=fun X h=>aAH (hry X h) 1 x.f1 rfl 1 rfl
 have HB2:Hid (∀ X,Below W0.heap.size W0 X→Bys X (some ⟨y,2,none⟩) 32 32 x.f2):=fun X h=>aBT (hry X h) 2 32 x.f2 rfl 2 rfl (by omega)
 have HB3:Hid (∀ X,Below W0.heap.size W0 X→Bys X (some ⟨y,34,none⟩) 32 32 x.f3):=fun X h=>aBT (hry X h) 3 32 x.f3 rfl 34 rfl (by omega)
 have HB4:Hid (∀ X,Below W0.heap.size W0 X→Bys X (some ⟨y,66,none⟩) 32 32 x.f4):=fun X h=>aBT (hry X h) 4 32 x.f4 rfl 66 rfl (by omega)
 have S0:=hid (Below.refl W0.heap.size W0)
 have HB0w:=hid hB0
 have EY:=hid ey
 clear hB0 r0 hry hx
 go_enter Tryz.func62,Tryz.ntmps62
 go_upto_region 7 with fail
 clear hW0 ey z0
 have ld0:=HL0.out _ S0.out
 go_upto_region 8 with (go_at_call 51;refine (aCb x.f0 _ HX.out.1.1 HX.out.1.2).mono ?_;rintro e X1 ⟨v1,rfl,ho1,hb1⟩)
 obtain ⟨a1,c1,rfl,hr1⟩:=aAR ho1
 clear ho1 ld0
 have S1:=hid (S0.out.trans (hb1.mono S0.out.size))
 have R0:=hid (show ∀ X,Below X1.heap.size X1 X→Bys X a1 8 c1 (nmB x.f0) from fun X h=>hr1.below h)
 clear hb1 hr1
 have ld1:=HL1.out _ S1.out
 go_upto_region 9 with (go_at_call 51;refine (aCb x.f1 _ HX.out.2.1.1 HX.out.2.1.2).mono ?_;rintro e X2 ⟨v2,rfl,ho2,hb2⟩)
 obtain ⟨a2,c2,rfl,hr2⟩:=aAR ho2
 clear ho2 ld1
 have S2:=hid (S1.out.trans (hb2.mono S1.out.size))
 have K1:=hid (show Below X1.heap.size X1 X2 from hb2)
 have R1:=hid (show ∀ X,Below X2.heap.size X2 X→Bys X a2 8 c2 (nmB x.f1) from fun X h=>hr2.below h)
 clear hb2 hr2
 go_upto_region 10 with (at_builtin;refine aAb _ rfl _ _ rfl X2.heap.size _ 0 [] rfl (World.ownsRow_made _ #[] 0 (Nat.le_refl _) (Nat.zero_le _) rfl) _ 32 32 x.f2 rfl (HB2.out _ (S2.out.alloc S2.out.size _)) (by omega) (by simp) ?_;intro v3 X3 ho3 hg3;rw [Nat.zero_add,List.nil_append] at ho3)
 have hb3:=below_grown ((Below.refl X2.heap.size X2).alloc (Nat.le_refl _) (.cells #[] 5)) (World.ownsRow_made _ #[] 0 (Nat.le_refl _) (Nat.zero_le _) rfl) (by simp) hg3
 obtain ⟨a3,c3,rfl,hr3⟩:=aAR ho3
 clear hg3 ho3
 have S3:=hid (S2.out.trans (hb3.mono S2.out.size))
 replace K1:=hid (K1.out.trans (hb3.mono K1.out.size))
 have K2:=hid (show Below X2.heap.size X2 X3 from hb3)
 have R2:=hid (show ∀ X,Below X3.heap.size X3 X→Bys X a3 32 c3 (x.f2) from fun X h=>hr3.below h)
 clear hb3 hr3
 go_upto_region 11 with (at_builtin;refine aAb _ rfl _ _ rfl X3.heap.size _ 0 [] rfl (World.ownsRow_made _ #[] 0 (Nat.le_refl _) (Nat.zero_le _) rfl) _ 32 32 x.f3 rfl (HB3.out _ (S3.out.alloc S3.out.size _)) (by omega) (by simp) ?_;intro v4 X4 ho4 hg4;rw [Nat.zero_add,List.nil_append] at ho4)
 have hb4:=below_grown ((Below.refl X3.heap.size X3).alloc (Nat.le_refl _) (.cells #[] 5)) (World.ownsRow_made _ #[] 0 (Nat.le_refl _) (Nat.zero_le _) rfl) (by simp) hg4
 obtain ⟨a4,c4,rfl,hr4⟩:=aAR ho4
 clear hg4 ho4
 have S4:=hid (S3.out.trans (hb4.mono S3.out.size))
 replace K1:=hid (K1.out.trans (hb4.mono K1.out.size))
 replace K2:=hid (K2.out.trans (hb4.mono K2.out.size))
 have K3:=hid (show Below X3.heap.size X3 X4 from hb4)
 have R3:=hid (show ∀ X,Below X4.heap.size X4 X→Bys X a4 32 c4 (x.f3) from fun X h=>hr4.below h)
 clear hb4 hr4
 go_upto_region 12 with (at_builtin;refine aAb _ rfl _ _ rfl X4.heap.size _ 0 [] rfl (World.ownsRow_made _ #[] 0 (Nat.le_refl _) (Nat.zero_le _) rfl) _ 32 32 x.f4 rfl (HB4.out _ (S4.out.alloc S4.out.size _)) (by omega) (by simp) ?_;intro v5 X5 ho5 hg5;rw [Nat.zero_add,List.nil_append] at ho5)
 have hb5:=below_grown ((Below.refl X4.heap.size X4).alloc (Nat.le_refl _) (.cells #[] 5)) (World.ownsRow_made _ #[] 0 (Nat.le_refl _) (Nat.zero_le _) rfl) (by simp) hg5
 obtain ⟨a5,c5,rfl,hr5⟩:=aAR ho5
 clear hg5 ho5
 have S5:=hid (S4.out.trans (hb5.mono S4.out.size))
 replace K1:=hid (K1.out.trans (hb5.mono K1.out.size))
 replace K2:=hid (K2.out.trans (hb5.mono K2.out.size))
 replace K3:=hid (K3.out.trans (hb5.mono K3.out.size))
 have K4:=hid (show Below X4.heap.size X4 X5 from hb5)
 have R4:=hid (show ∀ X,Below X5.heap.size X5 X→Bys X a5 32 c5 (x.f4) from fun X h=>hr5.below h)
 clear hb5 hr5
 obtain ⟨ps,eps⟩:∃ ps:List Pt,([(a1,8,c1,nmB x.f0),(a2,8,c2,nmB x.f1),(a3,32,c3,x.f2),(a4,32,c4,x.f3),(a5,32,c5,x.f4)]:List Pt)=ps:=⟨_,rfl⟩
 obtain ⟨Y1,hY1⟩:∃ Y,X5.alloc (.cells (ps.map ptv).toArray 39)=Y:=⟨_,rfl⟩
 obtain ⟨Y2,hY2⟩:∃ Y,Y1.alloc (.cells (vs .i64 5 aGv) 3)=Y:=⟨_,rfl⟩
 have hy1:Below X5.heap.size X5 Y1:=by rw [←hY1];exact (Below.refl _ _).alloc (Nat.le_refl _) _
 have hy2:Below X5.heap.size X5 Y2:=by rw [←hY2];exact hy1.alloc hy1.size _
 have g1:Y2.heap[X5.heap.size]?=some (.cells (ps.map ptv).toArray 39):=by
  rw [←hY2,←hY1]
  exact (aAc (by simp)).trans (aA2 rfl)
 have g2:Y2.heap[Y1.heap.size]?=some (.cells (vs .i64 5 aGv) 3):=by rw [←hY2];exact aA2 rfl
 have bs1:=aTi X5 (a1,8,c1,nmB x.f0) (a2,8,c2,nmB x.f1) (a3,32,c3,x.f2) (a4,32,c4,x.f3) (a5,32,c5,x.f4)
 have bs2:=aJ5 Y1
 have hla:=aJr ps aGv 5 X5.heap.size Y1.heap.size Y2 (by rw [←eps];rfl) g1 g2 (fun r hr=>by
  rw [←eps]
  rcases (by omega:r=0∨r=1∨r=2∨r=3∨r=4) with rfl | rfl | rfl | rfl | rfl
  ·exact R0.out _ (K1.out.trans (hy2.mono K1.out.size))
  ·exact R1.out _ (K2.out.trans (hy2.mono K2.out.size))
  ·exact R2.out _ (K3.out.trans (hy2.mono K3.out.size))
  ·exact R3.out _ (K4.out.trans (hy2.mono K4.out.size))
  ·exact R4.out _ hy2
  ) (fun r hr=>by
  rw [←eps]
  rcases (by omega:r=0∨r=1∨r=2∨r=3∨r=4) with rfl | rfl | rfl | rfl | rfl
  all_goals exact ⟨rfl,Nat.le_of_ble_eq_true rfl,Nat.le_of_ble_eq_true rfl⟩) (by omega) (by omega) (by rw [←eps];exact Nat.le_of_ble_eq_true rfl)
 have e1:ln7 (ps.map ptb)=112:=by rw [←eps];rfl
 have e2:ct7 (ps.map ptb)=ct7 (aDY x):=by rw [←eps];rfl
 rw [e1,e2] at hla
 rw [eps,hY1] at bs1
 rw [hY2] at bs2
 obtain ⟨u1,eu1⟩:∃ u,X5.heap.size=u:=⟨_,rfl⟩
 obtain ⟨u2,eu2⟩:∃ u,Y1.heap.size=u:=⟨_,rfl⟩
 rw [eu1] at bs1 hla
 rw [eu2] at bs2 hla
 replace bs1:(bsP 5 #[(0,Value.slice a1 8 c1),(1,Value.slice a2 8 c2),(2,Value.slice a3 32 c3),(3,Value.slice a4 32 c4),(4,Value.slice a5 32 c5)]).run Tryz.prog X5=.ok (.slice (some ⟨u1,0,none⟩) 5 5) Y1:=bs1
 have HLA:=hid hla
 have HY2:=hid hy2
 clear hla hy1 hy2 g1 g2 e1 e2 eps hY1 hY2 eu1 eu2
 go_wp2_with (go_at_call 68;refine HLA.out.mono ?_;rintro e Y ⟨v,rfl,ho,hbY⟩)
 go_ret2
 have e0:=EY.out
 have e1:=HB0w.out.size
 have e2:=S5.out.size
 have e3:=HY2.out.size
 exact ⟨v,rfl,(ho.mono (by omega):_),HB0w.out.trans ((S5.out.mono (by omega)).trans ((HY2.out.mono (by omega)).trans (hbY.mono (by omega))))⟩
end
section
open Go.RowKit
set_option linter.unusedVariables false
set_option linter.unusedSimpArgs false
attribute [local go_sem ↓] aAu aAt aAF aB3 aAQ aAL
set_option maxRecDepth 20000 in
set_option maxHeartbeats 2000000 in
theorem aFd (x : aB6) (w : World) (hx : aBV x) (hC : Rc w) :
    Calls Tryz.prog 23 #[.agg (cel (aAm x))] w fun e w'=>e=.returned (.tuple #[.agg (vs .u8 32 (aBn x)),.int .i64 0])∧Below w.heap.size w w':=by
 have z:=aAj
 have zc:∀ W:World,(zeroValue 100).run Tryz.prog W=.ok (.agg (vs .u8 160 (fl7 [fun _=>0,fun _=>0,fun _=>0,fun _=>0,fun _=>0]))) W:=(zero_of_info (n:=160) (by kernel_rfl)).1
 obtain ⟨y,ey⟩:∃ y,w.heap.size=y:=⟨_,rfl⟩
 obtain ⟨W1,hW1⟩:∃ W,w.alloc (.cells (cel (aAm x)) 30)=W:=⟨_,rfl⟩
 obtain ⟨W2,hW2⟩:∃ W,W1.alloc (.cells (vs .u8 32 fun _=>0) 24)=W:=⟨_,rfl⟩
 obtain ⟨V0,hV0⟩:∃ W,W2.alloc (.cells (vs .u8 160 (fl7 [fun _=>0,fun _=>0,fun _=>0,fun _=>0,fun _=>0])) 100)=W:=⟨_,rfl⟩
 have z1:W1.heap.size=y+1:=by rw [←hW1,←ey];simp
 have z2:W2.heap.size=y+2:=by rw [←hW2];simp [z1]
 have z3:V0.heap.size=y+3:=by rw [←hV0];simp [z2]
 have hB0:Below w.heap.size w V0:=by rw [←hV0,←hW2,←hW1];exact (((Below.refl _ _).alloc (Nat.le_refl _) _).alloc (by simp) _).alloc (by simp;omega) _
 have r1:V0.heap[y]?=some (.cells (cel (aAm x)) 30):=by rw [←hV0];refine (aAc (by omega)).trans ?_;rw [←hW2];refine (aAc (by omega)).trans ?_;rw [←hW1];exact aA2 ey.symm
 have r2:V0.heap[y+1]?=some (.cells (vs .u8 32 fun _=>0) 24):=by rw [←hV0];refine (aAc (by omega)).trans ?_;rw [←hW2];exact aA2 z1.symm
 have r3:V0.heap[y+2]?=some (.cells (vs .u8 (32*5) (fl7 [fun _=>0,fun _=>0,fun _=>0,fun _=>0,fun _=>0])) 100):=by rw [←hV0];exact aA2 z2.symm
 have hry:∀ X,Below (y+2) V0 X→X.heap[y]?=some (.cells (cel (aAm x)) 30):=fun X h=>(h.block _ (by omega)).trans r1
 have hrr:∀ X,Below (y+2) V0 X→X.heap[y+1]?=some (.cells (vs .u8 32 fun _=>0) 24):=fun X h=>(h.block _ (by omega)).trans r2
 have hRc:∀ X,Below (y+2) V0 X→Rc X:=fun X h=>hC.below (hB0.trans (h.mono (by omega)))
 have hc0:∀ X a c,Below (y+2) V0 X→Bys X a 8 c (nmB x.f0)→Calls Tryz.prog 50 #[.slice a 8 c] X fun e w'=>e=.returned (.agg (vs .u8 32 (bR (nmB x.f0) 8)))∧Below X.heap.size X w':=fun X a c h hb=>aO9 a 8 c (nmB x.f0) X (hRc X h) hb (by omega) (by omega) (fun j _=>aDA _ j)
 have HL0:Hid (∀ X,Below (y+2) V0 X→X.cell? ⟨y,0,none⟩=some (.int .u64 x.f0)):=fun X h=>aAH (hry X h) 0 x.f0 rfl 0 rfl
 have hd0:∀ j,j < 32→0≤(bR (nmB x.f0) 8) j∧(bR (nmB x.f0) 8) j < 256:=fun j hj=>aC6 (aE1 (fun j _=>aDA _ j) _) _ j hj
 have hc1:∀ X a c,Below (y+2) V0 X→Bys X a 8 c (nmB x.f1)→Calls Tryz.prog 50 #[.slice a 8 c] X fun e w'=>e=.returned (.agg (vs .u8 32 (bR (nmB x.f1) 8)))∧Below X.heap.size X w':=fun X a c h hb=>aO9 a 8 c (nmB x.f1) X (hRc X h) hb (by omega) (by omega) (fun j _=>aDA _ j)
 have HL1:Hid (∀ X,Below (y+2) V0 X→X.cell? ⟨y,1,none⟩=some (.int .u64 x.f1)):=fun X h=>aAH (hry X h) 1 x.f1 rfl 1 rfl
 have hd1:∀ j,j < 32→0≤(bR (nmB x.f1) 8) j∧(bR (nmB x.f1) 8) j < 256:=fun j hj=>aC6 (aE1 (fun j _=>aDA _ j) _) _ j hj
 have HL2:Hid (∀ X,Below (y+2) V0 X→(aDZ ⟨y,2,none⟩).run Tryz.prog X=.ok (.agg (vs .u8 32 x.f2)) X):=fun X h=>aBa (fun j hj=>by
  rw [aAs (hry X h)]
  exact aEA (aAm x) 2 j (Seg.by 32 x.f2) rfl hj)
 have hd2:∀ j,j < 32→0≤x.f2 j∧x.f2 j < 256:=hx.2.2.1
 have HL3:Hid (∀ X,Below (y+2) V0 X→(aDZ ⟨y,34,none⟩).run Tryz.prog X=.ok (.agg (vs .u8 32 x.f3)) X):=fun X h=>aBa (fun j hj=>by
  rw [aAs (hry X h)]
  exact aEA (aAm x) 3 j (Seg.by 32 x.f3) rfl hj)
 have hd3:∀ j,j < 32→0≤x.f3 j∧x.f3 j < 256:=hx.2.2.2.1
 have HL4:Hid (∀ X,Below (y+2) V0 X→(aDZ ⟨y,66,none⟩).run Tryz.prog X=.ok (.agg (vs .u8 32 x.f4)) X):=fun X h=>aBa (fun j hj=>by
  rw [aAs (hry X h)]
  exact aEA (aAm x) 4 j (Seg.by 32 x.f4) rfl hj)
 have hd4:∀ j,j < 32→0≤x.f4 j∧x.f4 j < 256:=hx.2.2.2.2
 have eh:∀ j,j < 32→aCf (fl7 [bR (nmB x.f0) 8,bR (nmB x.f1) 8,x.f2,x.f3,x.f4]) 5 (5:Nat) j=aBn x j:=fun j hj=>aI2 (fun q hq=>by
  unfold fl7
  have hq5:=Nat.mod_lt q (show 0 < 32 by omega)
  rcases (by omega:q / 32=0∨q / 32=1∨q / 32=2∨q / 32=3∨q / 32=4) with e | e | e | e | e
  ·first | (rw [e];done) | (rw [e];rfl)
  ·first | (rw [e];done) | (rw [e];rfl)
  ·rw [e];exact (aOW x.f2 _ hq5).symm
  ·rw [e];exact (aOW x.f3 _ hq5).symm
  ·rw [e];exact (aOW x.f4 _ hq5).symm
  ) _ j hj
 obtain ⟨C0,eC0⟩:∃ C,bR (nmB x.f0) 8=C:=⟨_,rfl⟩
 rw [eC0] at hd0 hc0
 simp only [eC0] at eh
 have HC0:=hid hc0
 obtain ⟨C1,eC1⟩:∃ C,bR (nmB x.f1) 8=C:=⟨_,rfl⟩
 rw [eC1] at hd1 hc1
 simp only [eC1] at eh
 have HC1:=hid hc1
 obtain ⟨C2,eC2⟩:∃ C,x.f2=C:=⟨_,rfl⟩
 rw [eC2] at hd2 HL2
 simp only [eC2] at eh
 obtain ⟨C3,eC3⟩:∃ C,x.f3=C:=⟨_,rfl⟩
 rw [eC3] at hd3 HL3
 simp only [eC3] at eh
 obtain ⟨C4,eC4⟩:∃ C,x.f4=C:=⟨_,rfl⟩
 rw [eC4] at hd4 HL4
 simp only [eC4] at eh
 have hmu:∀ X,Below (y+2) V0 X→X.heap[y+2]?=some (.cells (vs .u8 (32*5) (fl7 [C0,C1,C2,C3,C4])) 100)→Calls Tryz.prog 52 #[.slice (some ⟨y+2,0,none⟩) 5 5,.int .i64 5] X fun e w'=>e=.returned (.agg (vs .u8 32 (aBn x)))∧Below X.heap.size X w':=fun X h h2=>by
  have:=aRS (some ⟨y+2,0,none⟩) 5 5 (fl7 [C0,C1,C2,C3,C4]) (5:Nat) X (hRc X h) (aEv h2) (by omega) (aKp (fun c hc=>by
   simp only [List.mem_cons,List.not_mem_nil,or_false] at hc
   rcases hc with rfl | rfl | rfl | rfl | rfl
   ·exact hd0
   ·exact hd1
   ·exact hd2
   ·exact hd3
   ·exact hd4
   ) _) (by decide) (by decide) (by decide)
  rw [aAO (fun j hj=>eh j hj)] at this
  exact this
 obtain ⟨D,eD⟩:∃ D,aBn x=D:=⟨_,rfl⟩
 rw [eD] at hmu ⊢
 obtain ⟨u,eu⟩:∃ u,y+2=u:=⟨_,rfl⟩
 rw [eu] at hmu
 have HU:=hid eu
 have HMU:=hid hmu
 have HRR:=hid hrr
 have HB0w:=hid hB0
 have EY:=hid ey
 have Z3:=hid z3
 have HX:=hid hx
 have RV0:=hid r3
 have SV0:=hid (Below.refl (y+2) V0)
 rw [eu] at RV0
 clear hmu hrr hB0 z3 r1 r2 r3 hry hRc hx hC eh eD hd0 eC0 hc0 hd1 eC1 hc1 hd2 eC2 hd3 eC3 hd4 eC4
 go_enter Tryz.func23,Tryz.ntmps23
 go_upto_region 3 with fail
 clear hW1 hW2 hV0 z1 z2 ey z zc
 try rw [eu]
 clear eu
 have ld:=HL0.out _ SV0.out
 go_upto_region 4 with (first
  | (go_at_call 51; refine (aCb x.f0 _ HX.out.1.1 HX.out.1.2).mono ?_; rintro e Y ⟨v, rfl, ho, hb⟩; obtain ⟨a, c, rfl, hr⟩ := aAR ho; clear ho; have SY := hid (SV0.out.trans (hb.mono (by have h1 := HU.out; have h2 := Z3.out; have h3 := SV0.out.size; omega))); have RY := hid ((hb.block _ (Array.getElem?_eq_some_iff.1 RV0.out).1).trans RV0.out); have CY := hid (HC0.out _ _ _ SY.out hr); clear hr hb)
  | (go_at_call 50; refine CY.out.mono ?_; rintro e X0 ⟨rfl, hb⟩; have sb := SY.out.trans (hb.mono (by have h1 := HU.out; have h2 := Z3.out; have h3 := SY.out.size; omega)); have rb := (hb.block _ (Array.getElem?_eq_some_iff.1 RY.out).1).trans RY.out; obtain ⟨sv, nr, nb⟩ := aSi (l := [fun _ => 0, fun _ => 0, fun _ => 0, fun _ => 0, fun _ => 0]) (n := 5) sb (by rw [← HU.out]; exact Nat.le_refl _) rb 0 C0 (by omega) rfl; have NR := hid nr; have NB := hid nb; clear nr nb sb rb hb))
 clear CY ld
 obtain ⟨V1,hV⟩:∃ V,X0.setCells u 0 (bl C0 32)=V:=⟨_,rfl⟩
 have RV1:Hid (V1.heap[u]?=some (.cells (vs .u8 (32*5) (fl7 [C0,fun _=>0,fun _=>0,fun _=>0,fun _=>0])) 100)):=by rw [←hV];exact NR.out
 have SV1:Hid (Below (y+2) V0 V1):=by rw [←hV];exact NB.out
 rw [hV]
 clear hV NR NB sv
 have ld:=HL1.out _ SV1.out
 go_upto_region 5 with (first
  | (go_at_call 51; refine (aCb x.f1 _ HX.out.2.1.1 HX.out.2.1.2).mono ?_; rintro e Y ⟨v, rfl, ho, hb⟩; obtain ⟨a, c, rfl, hr⟩ := aAR ho; clear ho; have SY := hid (SV1.out.trans (hb.mono (by have h1 := HU.out; have h2 := Z3.out; have h3 := SV1.out.size; omega))); have RY := hid ((hb.block _ (Array.getElem?_eq_some_iff.1 RV1.out).1).trans RV1.out); have CY := hid (HC1.out _ _ _ SY.out hr); clear hr hb)
  | (go_at_call 50; refine CY.out.mono ?_; rintro e X1 ⟨rfl, hb⟩; have sb := SY.out.trans (hb.mono (by have h1 := HU.out; have h2 := Z3.out; have h3 := SY.out.size; omega)); have rb := (hb.block _ (Array.getElem?_eq_some_iff.1 RY.out).1).trans RY.out; obtain ⟨sv, nr, nb⟩ := aSi (l := [C0, fun _ => 0, fun _ => 0, fun _ => 0, fun _ => 0]) (n := 5) sb (by rw [← HU.out]; exact Nat.le_refl _) rb 1 C1 (by omega) rfl; have NR := hid nr; have NB := hid nb; clear nr nb sb rb hb))
 clear CY ld
 obtain ⟨V2,hV⟩:∃ V,X1.setCells u 32 (bl C1 32)=V:=⟨_,rfl⟩
 have RV2:Hid (V2.heap[u]?=some (.cells (vs .u8 (32*5) (fl7 [C0,C1,fun _=>0,fun _=>0,fun _=>0])) 100)):=by rw [←hV];exact NR.out
 have SV2:Hid (Below (y+2) V0 V2):=by rw [←hV];exact NB.out
 rw [hV]
 clear hV NR NB sv
 have ld:=HL2.out _ SV2.out
 obtain ⟨sv,nr,nb⟩:=aSi (l:=[C0,C1,fun _=>0,fun _=>0,fun _=>0]) (n:=5) SV2.out (by rw [←HU.out];exact Nat.le_refl _) RV2.out 2 C2 (by omega) rfl
 have NR:=hid nr
 have NB:=hid nb
 clear nr nb
 go_upto_region 6 with fail
 clear ld
 obtain ⟨V3,hV⟩:∃ V,V2.setCells u 64 (bl C2 32)=V:=⟨_,rfl⟩
 have RV3:Hid (V3.heap[u]?=some (.cells (vs .u8 (32*5) (fl7 [C0,C1,C2,fun _=>0,fun _=>0])) 100)):=by rw [←hV];exact NR.out
 have SV3:Hid (Below (y+2) V0 V3):=by rw [←hV];exact NB.out
 rw [hV]
 clear hV NR NB sv
 have ld:=HL3.out _ SV3.out
 obtain ⟨sv,nr,nb⟩:=aSi (l:=[C0,C1,C2,fun _=>0,fun _=>0]) (n:=5) SV3.out (by rw [←HU.out];exact Nat.le_refl _) RV3.out 3 C3 (by omega) rfl
 have NR:=hid nr
 have NB:=hid nb
 clear nr nb
 go_upto_region 7 with fail
 clear ld
 obtain ⟨V4,hV⟩:∃ V,V3.setCells u 96 (bl C3 32)=V:=⟨_,rfl⟩
 have RV4:Hid (V4.heap[u]?=some (.cells (vs .u8 (32*5) (fl7 [C0,C1,C2,C3,fun _=>0])) 100)):=by rw [←hV];exact NR.out
 have SV4:Hid (Below (y+2) V0 V4):=by rw [←hV];exact NB.out
 rw [hV]
 clear hV NR NB sv
 have ld:=HL4.out _ SV4.out
 obtain ⟨sv,nr,nb⟩:=aSi (l:=[C0,C1,C2,C3,fun _=>0]) (n:=5) SV4.out (by rw [←HU.out];exact Nat.le_refl _) RV4.out 4 C4 (by omega) rfl
 have NR:=hid nr
 have NB:=hid nb
 clear nr nb
 go_upto_region 8 with fail
 clear ld
 obtain ⟨V5,hV⟩:∃ V,V4.setCells u 128 (bl C4 32)=V:=⟨_,rfl⟩
 have RV5:Hid (V5.heap[u]?=some (.cells (vs .u8 (32*5) (fl7 [C0,C1,C2,C3,C4])) 100)):=by rw [←hV];exact NR.out
 have SV5:Hid (Below (y+2) V0 V5):=by rw [←hV];exact NB.out
 rw [hV]
 clear hV NR NB sv
 have HM:=hid (HMU.out _ (by have:=SV5.out;rw [HU.out] at this;exact this) RV5.out)
 go_wp2_with (go_at_call 52;refine HM.out.mono ?_;rintro e Y ⟨rfl,hb⟩;have sy:=SV5.out.trans (hb.mono (by have h1:=HU.out;have h2:=Z3.out;have h3:=SV5.out.size;omega));have rY:=HRR.out _ sy;have s1:=aAv rY D;have RY:=hid rY;have SY:=hid sy;clear rY sy hb)
 refine aEE _ _ (y+1) _ 24 _ rfl rfl rfl rfl (aA4 RY.out) ⟨rfl,?_⟩
 have e0:=EY.out
 exact aA6 (HB0w.out.trans (SY.out.mono (by omega))) (by omega) _
end
section
open Go.RowKit
set_option linter.unusedVariables false
set_option linter.unusedSimpArgs false
attribute [local go_sem ↓] aAu aAt aAF aB3 aAQ aAL aDz aDv aCU aC8 aCx aCK aD8 aDq aAG aBo aBC aAi aAl aBR aC9 aCR aDp aB8 aC2 aCp aAY aB4 aBl
end
end Go.Proofs.YtdjplhibmomajaaGreatDoor
