/- A part. -/
import Derived.Test.YtfgmddnfhphdeaaGreatDoorQG
namespace Go.Proofs.YtfgmddnfhphdeaaGreatDoor
open Go.RowKit
set_option linter.unusedVariables false
set_option linter.unusedSimpArgs false
set_option maxRecDepth 20000
structure SimF (x X:VState):Prop where
 e0:X.f0=x.f0
 e1:X.f1=x.f1
 e2:X.f2=x.f2
 e3:X.f3=x.f3
 e4:X.f4=x.f4
 e5:X.f5=x.f5
 e6:X.f6=x.f6
 l7:X.f7.n=x.f7.n
 z7:X.f7.z=x.f7.z
 e8:X.f8=x.f8
 l9:X.f9.n=x.f9.n
 z9:X.f9.z=x.f9.z
 e10:X.f10=x.f10
 l11:X.f11.n=x.f11.n
 z11:X.f11.z=x.f11.z
 l12:X.f12.n=x.f12.n
 z12:X.f12.z=x.f12.z
 e13:X.f13=x.f13
 e14:X.f14=x.f14
 l15:X.f15.n=x.f15.n
 z15:X.f15.z=x.f15.z
 l16:X.f16.n=x.f16.n
 z16:X.f16.z=x.f16.z
 e17:X.f17=x.f17
 e18:X.f18=x.f18
 e19:X.f19=x.f19
 e20:X.f20=x.f20
 l21:X.f21.n=x.f21.n
 z21:X.f21.z=x.f21.z
 e22:X.f22=x.f22
 e23:X.f23=x.f23
structure CpdF (B:Nat) (w:World) (X:VState):Prop where
 o7:w.ownsRow B 24 32 (.slice X.f7.a X.f7.n X.f7.c) X.f7.n (bl X.f7.z (32*X.f7.n))
 o9:w.ownsRow B 34 65 (.slice X.f9.a X.f9.n X.f9.c) X.f9.n (flat (fun i=>celL (sEth1 (X.f9.z i))) X.f9.n)
 o11:w.ownsRow B 74 86 (.slice X.f11.a X.f11.n X.f11.c) X.f11.n (flat (fun i=>celL (sValidator (X.f11.z i))) X.f11.n)
 o12:w.ownsRow B 22 1 (.slice X.f12.a X.f12.n X.f12.c) X.f12.n (nl X.f12.z X.f12.n)
 o15:w.ownsRow B 5 1 (.slice X.f15.a X.f15.n X.f15.c) X.f15.n (bl X.f15.z X.f15.n)
 o16:w.ownsRow B 5 1 (.slice X.f16.a X.f16.n X.f16.c) X.f16.n (bl X.f16.z X.f16.n)
 o21:w.ownsRow B 22 1 (.slice X.f21.a X.f21.n X.f21.c) X.f21.n (nl X.f21.z X.f21.n)
 d15:∀ ad ad',X.f15.a=some ad→X.f16.a=some ad'→ad.block≠ad'.block
 d12:∀ ad ad',X.f12.a=some ad→X.f21.a=some ad'→ad.block≠ad'.block
attribute [local go_sem ↓] lvState_eq svState_eq
set_option maxHeartbeats 4000000 in
theorem copy_full (x : VState) (w : World) (hw : InW w x) (hn : NilW x) (hb : x.f7.n * 32 ≤ 140737488351232 ∧ x.f9.n * 72 ≤ 140737488351232 ∧ x.f11.n * 128 ≤ 140737488351232 ∧ x.f12.n * 8 ≤ 140737488351232 ∧ x.f15.n ≤ 140737488351232 ∧ x.f16.n ≤ 140737488351232 ∧ x.f21.n * 8 ≤ 140737488351232) :
    Calls Tryz.prog 6 #[.agg (cel (sState x))] w fun e w'=>∃ X:VState,e=.returned (.agg (cel (sState X)))∧SimF x X∧CpdF w.heap.size w' X∧Below w.heap.size w w':=by
 obtain ⟨W1,hW1⟩:∃ W,w.alloc (.cells (cel (sState x)) 49)=W:=⟨_,rfl⟩
 obtain ⟨W2,hW2⟩:∃ W,W1.alloc (.cells (cel (sState oState)) 49)=W:=⟨_,rfl⟩
 have z1:W1.heap.size=w.heap.size+1:=by rw [←hW1];simp
 have z2:W2.heap.size=w.heap.size+2:=by rw [←hW2];simp [z1]
 obtain ⟨y,ey⟩:∃ y,y=w.heap.size:=⟨_,rfl⟩
 obtain ⟨r,er⟩:∃ r,W1.heap.size=r:=⟨_,rfl⟩
 have hri:RI w r y x W2:=by
  refine ⟨?_,?_,?_⟩
  ·rw [←hW2,←hW1]
   exact ((Below.refl _ _).alloc (Nat.le_refl _) _).alloc (by simp) _
  ·rw [←hW2,←er]
   exact heap_new rfl
  ·rw [←hW2,ey]
   refine (heap_old (by omega)).trans ?_
   rw [←hW1]
   exact heap_new rfl
 have HRI:=hid hri
 have HR:=hid (show r≠y by omega)
 have HWY:=hid (show w.heap.size≤y by omega)
 have HWR:=hid (show w.heap.size≤r by omega)
 have HY2:=hid (show y < W2.heap.size by omega)
 have SM:Hid (SimF x x):=by constructor<;>rfl
 have HBB:=hid hb
 have SR7:Hid (∀ X,Below w.heap.size w X→Src X 32 x.f7.a x.f7.n x.f7.c (bl x.f7.z (32*x.f7.n))):=fun X h=>(src_rts hw.i7).below h
 have SR9:Hid (∀ X,Below w.heap.size w X→Src X 65 x.f9.a x.f9.n x.f9.c (flat (fun i=>celL (sEth1 (x.f9.z i))) x.f9.n)):=fun X h=>(src_els hw.i9 hn.n9 (fun i=>by rw [celL_len];rfl) (fun i=>celL_one _)).below h
 have SR11:Hid (∀ X,Below w.heap.size w X→Src X 86 x.f11.a x.f11.n x.f11.c (flat (fun i=>celL (sValidator (x.f11.z i))) x.f11.n)):=fun X h=>(src_els hw.i11 hn.n11 (fun i=>by rw [celL_len];rfl) (fun i=>celL_one _)).below h
 have SR12:Hid (∀ X,Below w.heap.size w X→Src X 1 x.f12.a x.f12.n x.f12.c (nl x.f12.z x.f12.n)):=fun X h=>(src_nms hw.i12 hn.n12).below h
 have SR15:Hid (∀ X,Below w.heap.size w X→Src X 1 x.f15.a x.f15.n x.f15.c (bl x.f15.z x.f15.n)):=fun X h=>(src_bys hw.i15).below h
 have SR16:Hid (∀ X,Below w.heap.size w X→Src X 1 x.f16.a x.f16.n x.f16.c (bl x.f16.z x.f16.n)):=fun X h=>(src_bys hw.i16).below h
 have SR21:Hid (∀ X,Below w.heap.size w X→Src X 1 x.f21.a x.f21.n x.f21.c (nl x.f21.z x.f21.n)):=fun X h=>(src_nms hw.i21 hn.n21).below h
 obtain ⟨i7,hi7,hz7a,hz7b,hz7c⟩:=info_out (P:=Tryz.prog) (t:=24) (z:=.agg (vs .u8 32 fun _=>0)) (s:=32) (b:=32) (by kernel_rfl)
 have IT7:=hid (And.intro hi7 (And.intro hz7a (And.intro hz7b hz7c)))
 clear hi7 hz7a hz7b hz7c
 obtain ⟨i9,hi9,hz9a,hz9b,hz9c⟩:=info_out (P:=Tryz.prog) (t:=34) (z:=.agg (cel (sEth1 oEth1))) (s:=65) (b:=72) (by kernel_rfl)
 have IT9:=hid (And.intro hi9 (And.intro hz9a (And.intro hz9b hz9c)))
 clear hi9 hz9a hz9b hz9c
 obtain ⟨i11,hi11,hz11a,hz11b,hz11c⟩:=info_out (P:=Tryz.prog) (t:=74) (z:=.agg (cel (sValidator oValidator))) (s:=86) (b:=128) (by kernel_rfl)
 have IT11:=hid (And.intro hi11 (And.intro hz11a (And.intro hz11b hz11c)))
 clear hi11 hz11a hz11b hz11c
 obtain ⟨i12,hi12,hz12a,hz12b,hz12c⟩:=info_out (P:=Tryz.prog) (t:=22) (z:=.int .u64 0) (s:=1) (b:=8) (by kernel_rfl)
 have IT12:=hid (And.intro hi12 (And.intro hz12a (And.intro hz12b hz12c)))
 clear hi12 hz12a hz12b hz12c
 obtain ⟨i15,hi15,hz15a,hz15b,hz15c⟩:=info_out (P:=Tryz.prog) (t:=5) (z:=.int .u8 0) (s:=1) (b:=1) (by kernel_rfl)
 have IT15:=hid (And.intro hi15 (And.intro hz15a (And.intro hz15b hz15c)))
 clear hi15 hz15a hz15b hz15c
 obtain ⟨i16,hi16,hz16a,hz16b,hz16c⟩:=info_out (P:=Tryz.prog) (t:=5) (z:=.int .u8 0) (s:=1) (b:=1) (by kernel_rfl)
 have IT16:=hid (And.intro hi16 (And.intro hz16a (And.intro hz16b hz16c)))
 clear hi16 hz16a hz16b hz16c
 obtain ⟨i21,hi21,hz21a,hz21b,hz21c⟩:=info_out (P:=Tryz.prog) (t:=22) (z:=.int .u64 0) (s:=1) (b:=8) (by kernel_rfl)
 have IT21:=hid (And.intro hi21 (And.intro hz21a (And.intro hz21b hz21c)))
 clear hi21 hz21a hz21b hz21c
 have ey':=ey.symm
 have zs:=zeroState
 clear hw hn hb hri z1 z2 ey
 go_enter Tryz.func6,Tryz.ntmps6
 go_upto_region 1 with fail
 clear hW1 hW2 er ey' zs
 have l7:(W2.alloc (.cells #[] 24)).cell? ⟨y,653,none⟩=some (.slice x.f7.a x.f7.n x.f7.c):=cS7 (HRI.out.below ((Below.refl _ _).alloc (Nat.le_refl _) _)).2.2
 have hf7:x.f7=x.f7:=rfl
 rw [hf7] at l7
 obtain ⟨N7,eN7⟩:∃ N,bl x.f7.z (32*x.f7.n)=N:=⟨_,rfl⟩
 have SS:=SR7.out _ (HRI.out.1.alloc HRI.out.1.size (.cells #[] 24))
 rw [eN7] at SS
 have HSS:=hid SS
 clear SS
 go_upto_region 2 with (at_builtin;refine app_src _ rfl _ _ 32 rfl W2.heap.size 24 i7 (.agg (vs .u8 32 fun _=>0)) 32 32 Tryz.underlying32 IT7.out.1 IT7.out.2.1 IT7.out.2.2.1 IT7.out.2.2.2 (by simp [Value.cells,vs_size]) (by omega) _ 0 [] rfl (World.ownsRow_made _ #[] 0 (Nat.le_refl _) (Nat.zero_le _) rfl) _ _ _ N7 rfl HSS.out (by unfold maxLen;have:=HBB.out;omega) (by have:=HBB.out;omega) (by simp) ?_;intro v7 X0 ho hg;rw [Nat.zero_add,List.nil_append] at ho;obtain ⟨a7,c7,rfl⟩:=owns_form ho;have hbx:=grown_new (Below.refl 0 _) (World.ownsRow_made (e:=24) (size:=32) _ #[] 0 (Nat.le_refl _) (Nat.zero_le _) rfl) hg;have HBX:=hid hbx;have hx:=HRI.out.below hbx;have HX:=hid hx;have HO:=hid ho;obtain ⟨cd,ecd⟩:=some_cell hx.2.2 (i:=653) (by omega);have fy:=row_frozen hx.2.2 653;clear hbx ho hg hx)
 obtain ⟨V0,hV⟩:∃ V,X0.setCell ⟨y,653,none⟩ (.slice a7 x.f7.n c7)=V:=⟨_,rfl⟩
 have KP:Hid (Kept y W2 V0):=by rw [←hV];exact (Kept.ofBelow HBX.out).setCell _ _
 have RI0:Hid (RI w r y { x with f7:=⟨a7,x.f7.n,c7,x.f7.z⟩ } V0):=by rw [←hV];exact HX.out.set HR.out HWY.out 653 _ (st_7 _ _ _ _)
 have SM0:Hid (SimF x { x with f7:=⟨a7,x.f7.n,c7,x.f7.z⟩ }):={ SM.out with l7:=rfl }
 have ON:Hid (V0.ownsRow W2.heap.size 24 32 (.slice a7 x.f7.n c7) x.f7.n N7):=by rw [←hV];exact owns_keptY HO.out ((Kept.refl y X0).setCell _ _) (some_lt HRI.out.2.2)
 have BY7:Hid (y < W2.heap.size):=some_lt HRI.out.2.2
 rw [←eN7] at ON
 obtain ⟨x0,ex⟩:∃ X,{ x with f7:=⟨a7,x.f7.n,c7,x.f7.z⟩ }=X:=⟨_,rfl⟩
 rw [ex] at RI0 SM0
 have HF9n:Hid (x0.f9=x.f9):=by rw [←ex];exact rfl
 have HF11n:Hid (x0.f11=x.f11):=by rw [←ex];exact rfl
 have HF12n:Hid (x0.f12=x.f12):=by rw [←ex];exact rfl
 have HF15n:Hid (x0.f15=x.f15):=by rw [←ex];exact rfl
 have HF16n:Hid (x0.f16=x.f16):=by rw [←ex];exact rfl
 have HF21n:Hid (x0.f21=x.f21):=by rw [←ex];exact rfl
 have HF9:=HF9n
 clear HF9n
 have HF11:=HF11n
 clear HF11n
 have HF12:=HF12n
 clear HF12n
 have HF15:=HF15n
 clear HF15n
 have HF16:=HF16n
 clear HF16n
 have HF21:=HF21n
 clear HF21n
 have O7:Hid (V0.ownsRow W2.heap.size 24 32 (.slice x0.f7.a x0.f7.n x0.f7.c) x0.f7.n (bl x0.f7.z (32*x0.f7.n))):=by rw [←ex];show V0.ownsRow _ _ _ _ _ (bl x.f7.z (32*x.f7.n));rw [hf7];exact ON.out
 obtain ⟨B7,eB7⟩:∃ B,W2.heap.size=B:=⟨_,rfl⟩
 rw [eB7] at O7 BY7
 have EB7:=hid eB7
 clear ON eB7
 rw [hV]
 clear hV HX HO HBX KP l7 ecd fy HSS eN7 hf7 ex
 have l9:(V0.alloc (.cells #[] 34)).cell? ⟨y,719,none⟩=some (.slice x0.f9.a x0.f9.n x0.f9.c):=cS9 (RI0.out.below ((Below.refl _ _).alloc (Nat.le_refl _) _)).2.2
 have hf9:x0.f9=x.f9:=HF9.out
 rw [hf9] at l9
 obtain ⟨N9,eN9⟩:∃ N,flat (fun i=>celL (sEth1 (x.f9.z i))) x.f9.n=N:=⟨_,rfl⟩
 have SS:=SR9.out _ (RI0.out.1.alloc RI0.out.1.size (.cells #[] 34))
 rw [eN9] at SS
 have HSS:=hid SS
 clear SS
 go_upto_region 3 with (at_builtin;refine app_src _ rfl _ _ 35 rfl V0.heap.size 34 i9 (.agg (cel (sEth1 oEth1))) 65 72 Tryz.underlying35 IT9.out.1 IT9.out.2.1 IT9.out.2.2.1 IT9.out.2.2.2 (by show (cel _).size=_;rw [cel_size];rfl) (by omega) _ 0 [] rfl (World.ownsRow_made _ #[] 0 (Nat.le_refl _) (Nat.zero_le _) rfl) _ _ _ N9 rfl HSS.out (by unfold maxLen;have:=HBB.out;omega) (by have:=HBB.out;omega) (by simp) ?_;intro v9 X1 ho hg;rw [Nat.zero_add,List.nil_append] at ho;obtain ⟨a9,c9,rfl⟩:=owns_form ho;have hbx:=grown_new (Below.refl 0 _) (World.ownsRow_made (e:=34) (size:=65) _ #[] 0 (Nat.le_refl _) (Nat.zero_le _) rfl) hg;have HBX:=hid hbx;have hx:=RI0.out.below hbx;have HX:=hid hx;have HO:=hid ho;obtain ⟨cd,ecd⟩:=some_cell hx.2.2 (i:=719) (by omega);have fy:=row_frozen hx.2.2 719;clear hbx ho hg hx)
 obtain ⟨V1,hV⟩:∃ V,X1.setCell ⟨y,719,none⟩ (.slice a9 x.f9.n c9)=V:=⟨_,rfl⟩
 have KP:Hid (Kept y V0 V1):=by rw [←hV];exact (Kept.ofBelow HBX.out).setCell _ _
 have RI1:Hid (RI w r y { x0 with f9:=⟨a9,x.f9.n,c9,x0.f9.z⟩ } V1):=by rw [←hV];exact HX.out.set HR.out HWY.out 719 _ (st_9 _ _ _ _)
 have SM1:Hid (SimF x { x0 with f9:=⟨a9,x.f9.n,c9,x0.f9.z⟩ }):={ SM0.out with l9:=rfl }
 have O7n:=hid (owns_keptY O7.out KP.out BY7.out)
 clear O7
 have ON:Hid (V1.ownsRow V0.heap.size 34 65 (.slice a9 x.f9.n c9) x.f9.n N9):=by rw [←hV];exact owns_keptY HO.out ((Kept.refl y X1).setCell _ _) (some_lt RI0.out.2.2)
 have BY9:Hid (y < V0.heap.size):=some_lt RI0.out.2.2
 rw [←eN9] at ON
 obtain ⟨x1,ex⟩:∃ X,{ x0 with f9:=⟨a9,x.f9.n,c9,x0.f9.z⟩ }=X:=⟨_,rfl⟩
 rw [ex] at RI1 SM1
 have HF11n:Hid (x1.f11=x.f11):=by rw [←ex];exact HF11.out
 have HF12n:Hid (x1.f12=x.f12):=by rw [←ex];exact HF12.out
 have HF15n:Hid (x1.f15=x.f15):=by rw [←ex];exact HF15.out
 have HF16n:Hid (x1.f16=x.f16):=by rw [←ex];exact HF16.out
 have HF21n:Hid (x1.f21=x.f21):=by rw [←ex];exact HF21.out
 clear HF9 HF11 HF12 HF15 HF16 HF21
 have HF11:=HF11n
 clear HF11n
 have HF12:=HF12n
 clear HF12n
 have HF15:=HF15n
 clear HF15n
 have HF16:=HF16n
 clear HF16n
 have HF21:=HF21n
 clear HF21n
 have O7:Hid (V1.ownsRow B7 24 32 (.slice x1.f7.a x1.f7.n x1.f7.c) x1.f7.n (bl x1.f7.z (32*x1.f7.n))):=by rw [←ex];exact O7n.out
 clear O7n
 have O9:Hid (V1.ownsRow V0.heap.size 34 65 (.slice x1.f9.a x1.f9.n x1.f9.c) x1.f9.n (flat (fun i=>celL (sEth1 (x1.f9.z i))) x1.f9.n)):=by rw [←ex];show V1.ownsRow _ _ _ _ _ (flat (fun i=>celL (sEth1 (x0.f9.z i))) x.f9.n);rw [hf9];exact ON.out
 obtain ⟨B9,eB9⟩:∃ B,V0.heap.size=B:=⟨_,rfl⟩
 rw [eB9] at O9 BY9
 have EB9:=hid eB9
 clear ON eB9
 rw [hV]
 clear hV HX HO HBX KP l9 ecd fy HSS eN9 hf9 ex
 have l11:(V1.alloc (.cells #[] 74)).cell? ⟨y,721,none⟩=some (.slice x1.f11.a x1.f11.n x1.f11.c):=cS11 (RI1.out.below ((Below.refl _ _).alloc (Nat.le_refl _) _)).2.2
 have hf11:x1.f11=x.f11:=HF11.out
 rw [hf11] at l11
 obtain ⟨N11,eN11⟩:∃ N,flat (fun i=>celL (sValidator (x.f11.z i))) x.f11.n=N:=⟨_,rfl⟩
 have SS:=SR11.out _ (RI1.out.1.alloc RI1.out.1.size (.cells #[] 74))
 rw [eN11] at SS
 have HSS:=hid SS
 clear SS
 go_upto_region 4 with (at_builtin;refine app_src _ rfl _ _ 36 rfl V1.heap.size 74 i11 (.agg (cel (sValidator oValidator))) 86 128 Tryz.underlying36 IT11.out.1 IT11.out.2.1 IT11.out.2.2.1 IT11.out.2.2.2 (by show (cel _).size=_;rw [cel_size];rfl) (by omega) _ 0 [] rfl (World.ownsRow_made _ #[] 0 (Nat.le_refl _) (Nat.zero_le _) rfl) _ _ _ N11 rfl HSS.out (by unfold maxLen;have:=HBB.out;omega) (by have:=HBB.out;omega) (by simp) ?_;intro v11 X2 ho hg;rw [Nat.zero_add,List.nil_append] at ho;obtain ⟨a11,c11,rfl⟩:=owns_form ho;have hbx:=grown_new (Below.refl 0 _) (World.ownsRow_made (e:=74) (size:=86) _ #[] 0 (Nat.le_refl _) (Nat.zero_le _) rfl) hg;have HBX:=hid hbx;have hx:=RI1.out.below hbx;have HX:=hid hx;have HO:=hid ho;obtain ⟨cd,ecd⟩:=some_cell hx.2.2 (i:=721) (by omega);have fy:=row_frozen hx.2.2 721;clear hbx ho hg hx)
 obtain ⟨V2,hV⟩:∃ V,X2.setCell ⟨y,721,none⟩ (.slice a11 x.f11.n c11)=V:=⟨_,rfl⟩
 have KP:Hid (Kept y V1 V2):=by rw [←hV];exact (Kept.ofBelow HBX.out).setCell _ _
 have RI2:Hid (RI w r y { x1 with f11:=⟨a11,x.f11.n,c11,x1.f11.z⟩ } V2):=by rw [←hV];exact HX.out.set HR.out HWY.out 721 _ (st_11 _ _ _ _)
 have SM2:Hid (SimF x { x1 with f11:=⟨a11,x.f11.n,c11,x1.f11.z⟩ }):={ SM1.out with l11:=rfl }
 have O7n:=hid (owns_keptY O7.out KP.out BY7.out)
 clear O7
 have O9n:=hid (owns_keptY O9.out KP.out BY9.out)
 clear O9
 have ON:Hid (V2.ownsRow V1.heap.size 74 86 (.slice a11 x.f11.n c11) x.f11.n N11):=by rw [←hV];exact owns_keptY HO.out ((Kept.refl y X2).setCell _ _) (some_lt RI1.out.2.2)
 have BY11:Hid (y < V1.heap.size):=some_lt RI1.out.2.2
 rw [←eN11] at ON
 obtain ⟨x2,ex⟩:∃ X,{ x1 with f11:=⟨a11,x.f11.n,c11,x1.f11.z⟩ }=X:=⟨_,rfl⟩
 rw [ex] at RI2 SM2
 have HF12n:Hid (x2.f12=x.f12):=by rw [←ex];exact HF12.out
 have HF15n:Hid (x2.f15=x.f15):=by rw [←ex];exact HF15.out
 have HF16n:Hid (x2.f16=x.f16):=by rw [←ex];exact HF16.out
 have HF21n:Hid (x2.f21=x.f21):=by rw [←ex];exact HF21.out
 clear HF11 HF12 HF15 HF16 HF21
 have HF12:=HF12n
 clear HF12n
 have HF15:=HF15n
 clear HF15n
 have HF16:=HF16n
 clear HF16n
 have HF21:=HF21n
 clear HF21n
 have O7:Hid (V2.ownsRow B7 24 32 (.slice x2.f7.a x2.f7.n x2.f7.c) x2.f7.n (bl x2.f7.z (32*x2.f7.n))):=by rw [←ex];exact O7n.out
 clear O7n
 have O9:Hid (V2.ownsRow B9 34 65 (.slice x2.f9.a x2.f9.n x2.f9.c) x2.f9.n (flat (fun i=>celL (sEth1 (x2.f9.z i))) x2.f9.n)):=by rw [←ex];exact O9n.out
 clear O9n
 have O11:Hid (V2.ownsRow V1.heap.size 74 86 (.slice x2.f11.a x2.f11.n x2.f11.c) x2.f11.n (flat (fun i=>celL (sValidator (x2.f11.z i))) x2.f11.n)):=by rw [←ex];show V2.ownsRow _ _ _ _ _ (flat (fun i=>celL (sValidator (x1.f11.z i))) x.f11.n);rw [hf11];exact ON.out
 obtain ⟨B11,eB11⟩:∃ B,V1.heap.size=B:=⟨_,rfl⟩
 rw [eB11] at O11 BY11
 have EB11:=hid eB11
 clear ON eB11
 rw [hV]
 clear hV HX HO HBX KP l11 ecd fy HSS eN11 hf11 ex
 have l12:(V2.alloc (.cells #[] 22)).cell? ⟨y,722,none⟩=some (.slice x2.f12.a x2.f12.n x2.f12.c):=cS12 (RI2.out.below ((Below.refl _ _).alloc (Nat.le_refl _) _)).2.2
 have hf12:x2.f12=x.f12:=HF12.out
 rw [hf12] at l12
 obtain ⟨N12,eN12⟩:∃ N,nl x.f12.z x.f12.n=N:=⟨_,rfl⟩
 have SS:=SR12.out _ (RI2.out.1.alloc RI2.out.1.size (.cells #[] 22))
 rw [eN12] at SS
 have HSS:=hid SS
 clear SS
 go_upto_region 5 with (at_builtin;refine app_src _ rfl _ _ 37 rfl V2.heap.size 22 i12 (.int .u64 0) 1 8 Tryz.underlying37 IT12.out.1 IT12.out.2.1 IT12.out.2.2.1 IT12.out.2.2.2 (by rfl) (by omega) _ 0 [] rfl (World.ownsRow_made _ #[] 0 (Nat.le_refl _) (Nat.zero_le _) rfl) _ _ _ N12 rfl HSS.out (by unfold maxLen;have:=HBB.out;omega) (by have:=HBB.out;omega) (by simp) ?_;intro v12 X3 ho hg;rw [Nat.zero_add,List.nil_append] at ho;obtain ⟨a12,c12,rfl⟩:=owns_form ho;have hbx:=grown_new (Below.refl 0 _) (World.ownsRow_made (e:=22) (size:=1) _ #[] 0 (Nat.le_refl _) (Nat.zero_le _) rfl) hg;have HBX:=hid hbx;have hx:=RI2.out.below hbx;have HX:=hid hx;have HO:=hid ho;obtain ⟨cd,ecd⟩:=some_cell hx.2.2 (i:=722) (by omega);have fy:=row_frozen hx.2.2 722;clear hbx ho hg hx)
 obtain ⟨V3,hV⟩:∃ V,X3.setCell ⟨y,722,none⟩ (.slice a12 x.f12.n c12)=V:=⟨_,rfl⟩
 have KP:Hid (Kept y V2 V3):=by rw [←hV];exact (Kept.ofBelow HBX.out).setCell _ _
 have RI3:Hid (RI w r y { x2 with f12:=⟨a12,x.f12.n,c12,x2.f12.z⟩ } V3):=by rw [←hV];exact HX.out.set HR.out HWY.out 722 _ (st_12 _ _ _ _)
 have SM3:Hid (SimF x { x2 with f12:=⟨a12,x.f12.n,c12,x2.f12.z⟩ }):={ SM2.out with l12:=rfl }
 have O7n:=hid (owns_keptY O7.out KP.out BY7.out)
 clear O7
 have O9n:=hid (owns_keptY O9.out KP.out BY9.out)
 clear O9
 have O11n:=hid (owns_keptY O11.out KP.out BY11.out)
 clear O11
 have ON:Hid (V3.ownsRow V2.heap.size 22 1 (.slice a12 x.f12.n c12) x.f12.n N12):=by rw [←hV];exact owns_keptY HO.out ((Kept.refl y X3).setCell _ _) (some_lt RI2.out.2.2)
 have BY12:Hid (y < V2.heap.size):=some_lt RI2.out.2.2
 rw [←eN12] at ON
 obtain ⟨x3,ex⟩:∃ X,{ x2 with f12:=⟨a12,x.f12.n,c12,x2.f12.z⟩ }=X:=⟨_,rfl⟩
 rw [ex] at RI3 SM3
 have HF15n:Hid (x3.f15=x.f15):=by rw [←ex];exact HF15.out
 have HF16n:Hid (x3.f16=x.f16):=by rw [←ex];exact HF16.out
 have HF21n:Hid (x3.f21=x.f21):=by rw [←ex];exact HF21.out
 clear HF12 HF15 HF16 HF21
 have HF15:=HF15n
 clear HF15n
 have HF16:=HF16n
 clear HF16n
 have HF21:=HF21n
 clear HF21n
 have O7:Hid (V3.ownsRow B7 24 32 (.slice x3.f7.a x3.f7.n x3.f7.c) x3.f7.n (bl x3.f7.z (32*x3.f7.n))):=by rw [←ex];exact O7n.out
 clear O7n
 have O9:Hid (V3.ownsRow B9 34 65 (.slice x3.f9.a x3.f9.n x3.f9.c) x3.f9.n (flat (fun i=>celL (sEth1 (x3.f9.z i))) x3.f9.n)):=by rw [←ex];exact O9n.out
 clear O9n
 have O11:Hid (V3.ownsRow B11 74 86 (.slice x3.f11.a x3.f11.n x3.f11.c) x3.f11.n (flat (fun i=>celL (sValidator (x3.f11.z i))) x3.f11.n)):=by rw [←ex];exact O11n.out
 clear O11n
 have O12:Hid (V3.ownsRow V2.heap.size 22 1 (.slice x3.f12.a x3.f12.n x3.f12.c) x3.f12.n (nl x3.f12.z x3.f12.n)):=by rw [←ex];show V3.ownsRow _ _ _ _ _ (nl x2.f12.z x.f12.n);rw [hf12];exact ON.out
 obtain ⟨B12,eB12⟩:∃ B,V2.heap.size=B:=⟨_,rfl⟩
 rw [eB12] at O12 BY12
 have EB12:=hid eB12
 clear ON eB12
 rw [hV]
 clear hV HX HO HBX KP l12 ecd fy HSS eN12 hf12 ex
 have l15:(V3.alloc (.cells #[] 5)).cell? ⟨y,987,none⟩=some (.slice x3.f15.a x3.f15.n x3.f15.c):=cS15 (RI3.out.below ((Below.refl _ _).alloc (Nat.le_refl _) _)).2.2
 have hf15:x3.f15=x.f15:=HF15.out
 rw [hf15] at l15
 obtain ⟨N15,eN15⟩:∃ N,bl x.f15.z x.f15.n=N:=⟨_,rfl⟩
 have SS:=SR15.out _ (RI3.out.1.alloc RI3.out.1.size (.cells #[] 5))
 rw [eN15] at SS
 have HSS:=hid SS
 clear SS
 go_upto_region 6 with (at_builtin;refine app_src _ rfl _ _ 39 rfl V3.heap.size 5 i15 (.int .u8 0) 1 1 Tryz.underlying39 IT15.out.1 IT15.out.2.1 IT15.out.2.2.1 IT15.out.2.2.2 (by rfl) (by omega) _ 0 [] rfl (World.ownsRow_made _ #[] 0 (Nat.le_refl _) (Nat.zero_le _) rfl) _ _ _ N15 rfl HSS.out (by unfold maxLen;have:=HBB.out;omega) (by have:=HBB.out;omega) (by simp) ?_;intro v15 X4 ho hg;rw [Nat.zero_add,List.nil_append] at ho;obtain ⟨a15,c15,rfl⟩:=owns_form ho;have hbx:=grown_new (Below.refl 0 _) (World.ownsRow_made (e:=5) (size:=1) _ #[] 0 (Nat.le_refl _) (Nat.zero_le _) rfl) hg;have HBX:=hid hbx;have hx:=RI3.out.below hbx;have HX:=hid hx;have HO:=hid ho;obtain ⟨cd,ecd⟩:=some_cell hx.2.2 (i:=987) (by omega);have fy:=row_frozen hx.2.2 987;clear hbx ho hg hx)
 obtain ⟨V4,hV⟩:∃ V,X4.setCell ⟨y,987,none⟩ (.slice a15 x.f15.n c15)=V:=⟨_,rfl⟩
 have KP:Hid (Kept y V3 V4):=by rw [←hV];exact (Kept.ofBelow HBX.out).setCell _ _
 have RI4:Hid (RI w r y { x3 with f15:=⟨a15,x.f15.n,c15,x3.f15.z⟩ } V4):=by rw [←hV];exact HX.out.set HR.out HWY.out 987 _ (st_15 _ _ _ _)
 have SM4:Hid (SimF x { x3 with f15:=⟨a15,x.f15.n,c15,x3.f15.z⟩ }):={ SM3.out with l15:=rfl }
 have O7n:=hid (owns_keptY O7.out KP.out BY7.out)
 clear O7
 have O9n:=hid (owns_keptY O9.out KP.out BY9.out)
 clear O9
 have O11n:=hid (owns_keptY O11.out KP.out BY11.out)
 clear O11
 have O12n:=hid (owns_keptY O12.out KP.out BY12.out)
 clear O12
 have ON:Hid (V4.ownsRow V3.heap.size 5 1 (.slice a15 x.f15.n c15) x.f15.n N15):=by rw [←hV];exact owns_keptY HO.out ((Kept.refl y X4).setCell _ _) (some_lt RI3.out.2.2)
 have BY15:Hid (y < V3.heap.size):=some_lt RI3.out.2.2
 rw [←eN15] at ON
 obtain ⟨x4,ex⟩:∃ X,{ x3 with f15:=⟨a15,x.f15.n,c15,x3.f15.z⟩ }=X:=⟨_,rfl⟩
 rw [ex] at RI4 SM4
 have HF16n:Hid (x4.f16=x.f16):=by rw [←ex];exact HF16.out
 have HF21n:Hid (x4.f21=x.f21):=by rw [←ex];exact HF21.out
 clear HF15 HF16 HF21
 have HF16:=HF16n
 clear HF16n
 have HF21:=HF21n
 clear HF21n
 have O7:Hid (V4.ownsRow B7 24 32 (.slice x4.f7.a x4.f7.n x4.f7.c) x4.f7.n (bl x4.f7.z (32*x4.f7.n))):=by rw [←ex];exact O7n.out
 clear O7n
 have O9:Hid (V4.ownsRow B9 34 65 (.slice x4.f9.a x4.f9.n x4.f9.c) x4.f9.n (flat (fun i=>celL (sEth1 (x4.f9.z i))) x4.f9.n)):=by rw [←ex];exact O9n.out
 clear O9n
 have O11:Hid (V4.ownsRow B11 74 86 (.slice x4.f11.a x4.f11.n x4.f11.c) x4.f11.n (flat (fun i=>celL (sValidator (x4.f11.z i))) x4.f11.n)):=by rw [←ex];exact O11n.out
 clear O11n
 have O12:Hid (V4.ownsRow B12 22 1 (.slice x4.f12.a x4.f12.n x4.f12.c) x4.f12.n (nl x4.f12.z x4.f12.n)):=by rw [←ex];exact O12n.out
 clear O12n
 have O15:Hid (V4.ownsRow V3.heap.size 5 1 (.slice x4.f15.a x4.f15.n x4.f15.c) x4.f15.n (bl x4.f15.z x4.f15.n)):=by rw [←ex];show V4.ownsRow _ _ _ _ _ (bl x3.f15.z x.f15.n);rw [hf15];exact ON.out
 obtain ⟨B15,eB15⟩:∃ B,V3.heap.size=B:=⟨_,rfl⟩
 rw [eB15] at O15 BY15
 have EB15:=hid eB15
 clear ON eB15
 rw [hV]
 clear hV HX HO HBX KP l15 ecd fy HSS eN15 hf15 ex
 have OP15:=O15
 have l16:(V4.alloc (.cells #[] 5)).cell? ⟨y,988,none⟩=some (.slice x4.f16.a x4.f16.n x4.f16.c):=cS16 (RI4.out.below ((Below.refl _ _).alloc (Nat.le_refl _) _)).2.2
 have hf16:x4.f16=x.f16:=HF16.out
 rw [hf16] at l16
 obtain ⟨N16,eN16⟩:∃ N,bl x.f16.z x.f16.n=N:=⟨_,rfl⟩
 have SS:=SR16.out _ (RI4.out.1.alloc RI4.out.1.size (.cells #[] 5))
 rw [eN16] at SS
 have HSS:=hid SS
 clear SS
 go_upto_region 7 with (at_builtin;refine app_src _ rfl _ _ 39 rfl V4.heap.size 5 i16 (.int .u8 0) 1 1 Tryz.underlying39 IT16.out.1 IT16.out.2.1 IT16.out.2.2.1 IT16.out.2.2.2 (by rfl) (by omega) _ 0 [] rfl (World.ownsRow_made _ #[] 0 (Nat.le_refl _) (Nat.zero_le _) rfl) _ _ _ N16 rfl HSS.out (by unfold maxLen;have:=HBB.out;omega) (by have:=HBB.out;omega) (by simp) ?_;intro v16 X5 ho hg;rw [Nat.zero_add,List.nil_append] at ho;obtain ⟨a16,c16,rfl⟩:=owns_form ho;have hbx:=grown_new (Below.refl 0 _) (World.ownsRow_made (e:=5) (size:=1) _ #[] 0 (Nat.le_refl _) (Nat.zero_le _) rfl) hg;have HBX:=hid hbx;have hx:=RI4.out.below hbx;have HX:=hid hx;have HO:=hid ho;obtain ⟨cd,ecd⟩:=some_cell hx.2.2 (i:=988) (by omega);have fy:=row_frozen hx.2.2 988;clear hbx ho hg hx)
 obtain ⟨V5,hV⟩:∃ V,X5.setCell ⟨y,988,none⟩ (.slice a16 x.f16.n c16)=V:=⟨_,rfl⟩
 have KP:Hid (Kept y V4 V5):=by rw [←hV];exact (Kept.ofBelow HBX.out).setCell _ _
 have RI5:Hid (RI w r y { x4 with f16:=⟨a16,x.f16.n,c16,x4.f16.z⟩ } V5):=by rw [←hV];exact HX.out.set HR.out HWY.out 988 _ (st_16 _ _ _ _)
 have SM5:Hid (SimF x { x4 with f16:=⟨a16,x.f16.n,c16,x4.f16.z⟩ }):={ SM4.out with l16:=rfl }
 have O7n:=hid (owns_keptY O7.out KP.out BY7.out)
 clear O7
 have O9n:=hid (owns_keptY O9.out KP.out BY9.out)
 clear O9
 have O11n:=hid (owns_keptY O11.out KP.out BY11.out)
 clear O11
 have O12n:=hid (owns_keptY O12.out KP.out BY12.out)
 clear O12
 have O15n:=hid (owns_keptY O15.out KP.out BY15.out)
 clear O15
 have ON:Hid (V5.ownsRow V4.heap.size 5 1 (.slice a16 x.f16.n c16) x.f16.n N16):=by rw [←hV];exact owns_keptY HO.out ((Kept.refl y X5).setCell _ _) (some_lt RI4.out.2.2)
 have BY16:Hid (y < V4.heap.size):=some_lt RI4.out.2.2
 rw [←eN16] at ON
 obtain ⟨x5,ex⟩:∃ X,{ x4 with f16:=⟨a16,x.f16.n,c16,x4.f16.z⟩ }=X:=⟨_,rfl⟩
 rw [ex] at RI5 SM5
 have HF21n:Hid (x5.f21=x.f21):=by rw [←ex];exact HF21.out
 clear HF16 HF21
 have HF21:=HF21n
 clear HF21n
 have O7:Hid (V5.ownsRow B7 24 32 (.slice x5.f7.a x5.f7.n x5.f7.c) x5.f7.n (bl x5.f7.z (32*x5.f7.n))):=by rw [←ex];exact O7n.out
 clear O7n
 have O9:Hid (V5.ownsRow B9 34 65 (.slice x5.f9.a x5.f9.n x5.f9.c) x5.f9.n (flat (fun i=>celL (sEth1 (x5.f9.z i))) x5.f9.n)):=by rw [←ex];exact O9n.out
 clear O9n
 have O11:Hid (V5.ownsRow B11 74 86 (.slice x5.f11.a x5.f11.n x5.f11.c) x5.f11.n (flat (fun i=>celL (sValidator (x5.f11.z i))) x5.f11.n)):=by rw [←ex];exact O11n.out
 clear O11n
 have O12:Hid (V5.ownsRow B12 22 1 (.slice x5.f12.a x5.f12.n x5.f12.c) x5.f12.n (nl x5.f12.z x5.f12.n)):=by rw [←ex];exact O12n.out
 clear O12n
 have O15:Hid (V5.ownsRow B15 5 1 (.slice x5.f15.a x5.f15.n x5.f15.c) x5.f15.n (bl x5.f15.z x5.f15.n)):=by rw [←ex];exact O15n.out
 clear O15n
 have O16:Hid (V5.ownsRow V4.heap.size 5 1 (.slice x5.f16.a x5.f16.n x5.f16.c) x5.f16.n (bl x5.f16.z x5.f16.n)):=by rw [←ex];show V5.ownsRow _ _ _ _ _ (bl x4.f16.z x.f16.n);rw [hf16];exact ON.out
 obtain ⟨B16,eB16⟩:∃ B,V4.heap.size=B:=⟨_,rfl⟩
 rw [eB16] at O16 BY16
 have EB16:=hid eB16
 clear ON eB16
 have L15:Hid (∀ ad,x5.f15.a=some ad→ad.block < B16):=fun ad h=>by
  rw [←ex] at h
  have:=(OP15.out.lt ad.block (by show Value.ownBlock (.slice x4.f15.a _ _)=_;rw [show x4.f15.a=some ad from h];rfl)).2
  rw [←EB16.out]
  exact this
 rw [hV]
 clear hV HX HO HBX KP l16 ecd fy HSS eN16 hf16 ex
 have OP12:=O12
 clear OP15
 have l21:(V5.alloc (.cells #[] 22)).cell? ⟨y,1092,none⟩=some (.slice x5.f21.a x5.f21.n x5.f21.c):=cS21 (RI5.out.below ((Below.refl _ _).alloc (Nat.le_refl _) _)).2.2
 have hf21:x5.f21=x.f21:=HF21.out
 rw [hf21] at l21
 obtain ⟨N21,eN21⟩:∃ N,nl x.f21.z x.f21.n=N:=⟨_,rfl⟩
 have SS:=SR21.out _ (RI5.out.1.alloc RI5.out.1.size (.cells #[] 22))
 rw [eN21] at SS
 have HSS:=hid SS
 clear SS
 go_upto_region 8 with (at_builtin;refine app_src _ rfl _ _ 37 rfl V5.heap.size 22 i21 (.int .u64 0) 1 8 Tryz.underlying37 IT21.out.1 IT21.out.2.1 IT21.out.2.2.1 IT21.out.2.2.2 (by rfl) (by omega) _ 0 [] rfl (World.ownsRow_made _ #[] 0 (Nat.le_refl _) (Nat.zero_le _) rfl) _ _ _ N21 rfl HSS.out (by unfold maxLen;have:=HBB.out;omega) (by have:=HBB.out;omega) (by simp) ?_;intro v21 X6 ho hg;rw [Nat.zero_add,List.nil_append] at ho;obtain ⟨a21,c21,rfl⟩:=owns_form ho;have hbx:=grown_new (Below.refl 0 _) (World.ownsRow_made (e:=22) (size:=1) _ #[] 0 (Nat.le_refl _) (Nat.zero_le _) rfl) hg;have HBX:=hid hbx;have hx:=RI5.out.below hbx;have HX:=hid hx;have HO:=hid ho;obtain ⟨cd,ecd⟩:=some_cell hx.2.2 (i:=1092) (by omega);have fy:=row_frozen hx.2.2 1092;clear hbx ho hg hx)
 obtain ⟨V6,hV⟩:∃ V,X6.setCell ⟨y,1092,none⟩ (.slice a21 x.f21.n c21)=V:=⟨_,rfl⟩
 have KP:Hid (Kept y V5 V6):=by rw [←hV];exact (Kept.ofBelow HBX.out).setCell _ _
 have RI6:Hid (RI w r y { x5 with f21:=⟨a21,x.f21.n,c21,x5.f21.z⟩ } V6):=by rw [←hV];exact HX.out.set HR.out HWY.out 1092 _ (st_21 _ _ _ _)
 have SM6:Hid (SimF x { x5 with f21:=⟨a21,x.f21.n,c21,x5.f21.z⟩ }):={ SM5.out with l21:=rfl }
 have O7n:=hid (owns_keptY O7.out KP.out BY7.out)
 clear O7
 have O9n:=hid (owns_keptY O9.out KP.out BY9.out)
 clear O9
 have O11n:=hid (owns_keptY O11.out KP.out BY11.out)
 clear O11
 have O12n:=hid (owns_keptY O12.out KP.out BY12.out)
 clear O12
 have O15n:=hid (owns_keptY O15.out KP.out BY15.out)
 clear O15
 have O16n:=hid (owns_keptY O16.out KP.out BY16.out)
 clear O16
 have ON:Hid (V6.ownsRow V5.heap.size 22 1 (.slice a21 x.f21.n c21) x.f21.n N21):=by rw [←hV];exact owns_keptY HO.out ((Kept.refl y X6).setCell _ _) (some_lt RI5.out.2.2)
 have BY21:Hid (y < V5.heap.size):=some_lt RI5.out.2.2
 rw [←eN21] at ON
 obtain ⟨x6,ex⟩:∃ X,{ x5 with f21:=⟨a21,x.f21.n,c21,x5.f21.z⟩ }=X:=⟨_,rfl⟩
 rw [ex] at RI6 SM6
 clear HF21
 have O7:Hid (V6.ownsRow B7 24 32 (.slice x6.f7.a x6.f7.n x6.f7.c) x6.f7.n (bl x6.f7.z (32*x6.f7.n))):=by rw [←ex];exact O7n.out
 clear O7n
 have O9:Hid (V6.ownsRow B9 34 65 (.slice x6.f9.a x6.f9.n x6.f9.c) x6.f9.n (flat (fun i=>celL (sEth1 (x6.f9.z i))) x6.f9.n)):=by rw [←ex];exact O9n.out
 clear O9n
 have O11:Hid (V6.ownsRow B11 74 86 (.slice x6.f11.a x6.f11.n x6.f11.c) x6.f11.n (flat (fun i=>celL (sValidator (x6.f11.z i))) x6.f11.n)):=by rw [←ex];exact O11n.out
 clear O11n
 have O12:Hid (V6.ownsRow B12 22 1 (.slice x6.f12.a x6.f12.n x6.f12.c) x6.f12.n (nl x6.f12.z x6.f12.n)):=by rw [←ex];exact O12n.out
 clear O12n
 have O15:Hid (V6.ownsRow B15 5 1 (.slice x6.f15.a x6.f15.n x6.f15.c) x6.f15.n (bl x6.f15.z x6.f15.n)):=by rw [←ex];exact O15n.out
 clear O15n
 have O16:Hid (V6.ownsRow B16 5 1 (.slice x6.f16.a x6.f16.n x6.f16.c) x6.f16.n (bl x6.f16.z x6.f16.n)):=by rw [←ex];exact O16n.out
 clear O16n
 have O21:Hid (V6.ownsRow V5.heap.size 22 1 (.slice x6.f21.a x6.f21.n x6.f21.c) x6.f21.n (nl x6.f21.z x6.f21.n)):=by rw [←ex];show V6.ownsRow _ _ _ _ _ (nl x5.f21.z x.f21.n);rw [hf21];exact ON.out
 obtain ⟨B21,eB21⟩:∃ B,V5.heap.size=B:=⟨_,rfl⟩
 rw [eB21] at O21 BY21
 have EB21:=hid eB21
 clear ON eB21
 have L12:Hid (∀ ad,x6.f12.a=some ad→ad.block < B21):=fun ad h=>by
  rw [←ex] at h
  have:=(OP12.out.lt ad.block (by show Value.ownBlock (.slice x5.f12.a _ _)=_;rw [show x5.f12.a=some ad from h];rfl)).2
  rw [←EB21.out]
  exact this
 have L15n:Hid (∀ ad,x6.f15.a=some ad→ad.block < B16):=by rw [←ex];exact L15.out
 clear L15
 rw [hV]
 clear hV HX HO HBX KP l21 ecd fy HSS eN21 hf21 ex
 clear OP12
 have lv:=lvState_run RI6.out.2.2
 have sv:=svState_run RI6.out.2.1 x6
 go_wp2
 have kr:=(Kept.refl r V6).setRow (cel (sState x6))
 have d15:∀ ad ad',x6.f15.a=some ad→x6.f16.a=some ad'→ad.block≠ad'.block:=fun ad ad' h h' e=>by
  have h1:=L15n.out ad h
  have h2:=(O16.out.lt ad'.block (by show Value.ownBlock (.slice x6.f16.a _ _)=_;rw [h'];rfl)).1
  omega
 have d12:∀ ad ad',x6.f12.a=some ad→x6.f21.a=some ad'→ad.block≠ad'.block:=fun ad ad' h h' e=>by
  have h1:=L12.out ad h
  have h2:=(O21.out.lt ad'.block (by show Value.ownBlock (.slice x6.f21.a _ _)=_;rw [h'];rfl)).1
  omega
 refine retState1 _ r _ 49 rfl rfl rfl (setRow_at RI6.out.2.1) ⟨x6,rfl,SM6.out,⟨?_,?_,?_,?_,?_,?_,?_,d15,d12⟩,?_⟩
 ·exact (owns_keptY O7.out kr (by rw [←EB7.out];exact some_lt HRI.out.2.1)).mono (by rw [←EB7.out];exact HRI.out.1.size)
 ·exact (owns_keptY O9.out kr (by rw [←EB9.out];exact some_lt RI0.out.2.1)).mono (by rw [←EB9.out];exact RI0.out.1.size)
 ·exact (owns_keptY O11.out kr (by rw [←EB11.out];exact some_lt RI1.out.2.1)).mono (by rw [←EB11.out];exact RI1.out.1.size)
 ·exact (owns_keptY O12.out kr (by rw [←EB12.out];exact some_lt RI2.out.2.1)).mono (by rw [←EB12.out];exact RI2.out.1.size)
 ·exact (owns_keptY O15.out kr (by rw [←EB15.out];exact some_lt RI3.out.2.1)).mono (by rw [←EB15.out];exact RI3.out.1.size)
 ·exact (owns_keptY O16.out kr (by rw [←EB16.out];exact some_lt RI4.out.2.1)).mono (by rw [←EB16.out];exact RI4.out.1.size)
 ·exact (owns_keptY O21.out kr (by rw [←EB21.out];exact some_lt RI5.out.2.1)).mono (by rw [←EB21.out];exact RI5.out.1.size)
 ·exact below_row RI6.out.1 HWR.out _
end Go.Proofs.YtfgmddnfhphdeaaGreatDoor
