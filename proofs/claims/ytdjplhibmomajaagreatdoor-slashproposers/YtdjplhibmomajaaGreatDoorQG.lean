/- A part. -/
import Derived.Test.YtdjplhibmomajaaGreatDoorQS
import Derived.Test.YtdjplhibmomajaaGreatDoorMaE
import Derived.Test.YtdjplhibmomajaaGreatDoorHaG
import Derived.Test.YtdjplhibmomajaaGreatDoorHaE
import Derived.Test.YtdjplhibmomajaaGreatDoorRows
import Derived.Deep.Onto
import Derived.WalkKit
import Derived.Laws.Bits64b
import Derived.Handy
import Derived.ArgAppend
import Derived.Laws.BitsAllLaws
import Derived.Deep.WholeRow
import Derived.Deep.RegionHeld3
namespace Go.Proofs.YtdjplhibmomajaaGreatDoor
open Go.RowKit
set_option linter.unusedVariables false
set_option linter.unusedSimpArgs false
section
open Go.RowKit
set_option linter.unusedVariables false
set_option linter.unusedSimpArgs false
set_option maxRecDepth 20000
def aTt (x i:Value):Sem Value:=Instr.indexAt 31 x i
theorem aKv (x i:Value):Instr.indexAt 31 x i=aTt x i:=rfl
theorem aNs (w:World):(sizeOf 24).run Tryz.prog w=.ok 32 w:=by
 have hi:(Tryz.prog.info? 24).map (·.size)=some 32:=by kernel_rfl
 obtain ⟨i,h1,h2⟩:=Option.map_eq_some_iff.1 hi
 simp [sizeOf,typeInfo,h1,h2]
theorem aIo (w:World) (g o k:Nat) (h:k < 8):(aTt (.pointer (some ⟨g,o,none⟩)) (.int .u64 k)).run Tryz.prog w=.ok (.pointer (some ⟨g,o+32*k,none⟩)) w:=by
 unfold aTt Instr.indexAt
 have h1:(0:Int)≤(k:Int)∧(k:Int) < 8:=by omega
 simp only [asIntOf,Sem.run_bind,Sem.run_pure,Result.andThen_ok,run_underlying Tryz.underlying31]
 simp [h1.2,aNs,Instr.sureAddr,asAddr,addr_add,Nat.mul_comm]
def aHm (a b:Int):Int:=if a < b then 0 else a - b
attribute [local go_sem ↓] aAq aAr aAz aAi aAl aAw aAu aAt aAQ aBJ aKv
theorem aLg (a b : Int) (w : World) (a0 : 0 ≤ a) (a1 : a < 18446744073709551616) (b0 : 0 ≤ b) (b1 : b < 18446744073709551616) :
    Calls Tryz.prog 95 #[.int .u64 a,.int .u64 b] w fun e w'=>e=.returned (.int .u64 (aHm a b))∧w'=w:=by
 have hE:aHm a b=if a < b then 0 else a - b:=rfl
 have HE:=hid hE
 clear hE
 by_cases h:a < b
 ·go_enter Tryz.func95,Tryz.ntmps95
  go_wp2
  go_ret
  exact ⟨aB9 (by rw [HE.out,if_pos h]),rfl⟩
 ·go_enter Tryz.func95,Tryz.ntmps95
  go_wp2
  go_ret
  exact ⟨aB9 (by rw [HE.out,if_neg (by omega)]),rfl⟩
def sdM (k e:Int) (m:Nat→Int) (j:Nat):Int:=if j < 4 then nmB k j else if j < 12 then nmB e (j - 4) else m (j - 12)
def aRR (e:Int):Nat:=((e % 8+6) % 8).toNat
def aIz (x:aA1) (e:Int) (j:Nat):Int:=x.f13 (32*aRR e+j)
def aCP (x:aA1) (e k:Int):Nat→Int:=aCH KW HW (sdM (k % 4294967296) e (aIz x e)) 44
theorem aOJ (k e:Int) (m:Nat→Int) (hm:∀ j,j < 32→0≤m j∧m j < 256) (j:Nat) (hj:j < 44):0≤sdM k e m j∧sdM k e m j < 256:=by
 unfold sdM
 by_cases h1:j < 4
 ·rw [if_pos h1];exact aDA _ _
 ·rw [if_neg h1]
  by_cases h2:j < 12
  ·rw [if_pos h2];exact aDA _ _
  ·rw [if_neg h2];exact hm _ (by omega)
theorem aEn (m c:Nat→Int) (n k:Nat) (hm:∀ j,j < k→m (n+j)=c j):bl m n++bl c k=bl m (n+k):=by
 unfold bl
 rw [List.range_add,List.map_append,List.map_map]
 congr 1
 refine List.map_congr_left fun j hj=>?_
 show Value.int .u8 (c j)=Value.int .u8 (m (n+j))
 rw [hm j (List.mem_range.1 hj)]
theorem aI9 (W : World) (B : Nat) (v : Value) (n k cp b : Nat) (m c : Nat → Int) (ho : W.ownsRow B 5 1 v n (bl m n)) (hb : ∀ j, j < k → W.cell? ⟨b, j, none⟩ = some (.int .u8 (c j))) (hm : ∀ j, j < k → m (n + j) = c j) (hB : B ≤ W.heap.size) (hn : n ≤ 64) (hk : k ≤ 64) (hk0 : 0 < k) (ty : TypeId) :
    ∃ g' C' w',(aDO ty v (.slice (some ⟨b,0,none⟩) k cp)).run Tryz.prog W=.ok (.slice (some ⟨g',0,none⟩) (n+k) C') w'∧w'.ownsRow B 5 1 (.slice (some ⟨g',0,none⟩) (n+k) C') (n+k) (bl m (n+k))∧Below B W w':=by
 obtain ⟨i,hi,hz0,hz1,hz2⟩:=info_parts aDb
 obtain ⟨v',w',hr,ho',hg,_⟩:=run_append_own_at (P:=Tryz.prog) W B 39 ty 5 i (.int .u8 0) 1 1 Tryz.underlying39 hi hz0 hz1 hz2 rfl (by decide) v n (bl m n) ho ⟨b,0,none⟩ k cp (bl c k) (by rw [aAV,Nat.mul_one])
  (fun j u hj=>by
   obtain ⟨h1,rfl⟩:=aBD c k j u hj
   rw [addr_add,Nat.zero_add]
   exact hb j h1) (aC0 c k) (by unfold maxLen;omega) (by omega) hB
 rw [aEn m c n k hm] at ho'
 obtain ⟨g',C',rfl⟩:=aC3 ho' (by omega)
 exact ⟨g',C',w',hr,ho',below_grown (Below.refl _ _) ho hB hg⟩
set_option maxHeartbeats 2000000 in
theorem aLk (x : aA1) (e k : Int) (w : World) (hx : aAD x) (e0 : 0 ≤ e) (e1 : e < 18446744073709551616) (hC : Tab w 1 64 KW) :
    Calls Tryz.prog 96 #[.agg (cel (aA0 x)),.int .u64 e,.int .i64 k] w fun e' w'=>e'=.returned (.agg (vs .u8 32 (aCP x e k)))∧Below w.heap.size w w':=by
 obtain ⟨W0,hW0⟩:∃ W,(w.alloc (.cells (cel (aA0 x)) 49)).alloc (.cells (vs .u8 32 fun _=>0) 24)=W:=⟨_,rfl⟩
 have r0:W0.heap[w.heap.size]?=some (.cells (cel (aA0 x)) 49):=by rw [←hW0];exact (aAc (by simp)).trans (aA2 rfl)
 have r1:W0.heap[w.heap.size+1]?=some (.cells (vs .u8 32 fun _=>0) 24):=by rw [←hW0];exact aA2 (by simp)
 have hB0:Below w.heap.size w W0:=by rw [←hW0];exact ((Below.refl _ _).alloc (Nat.le_refl _) _).alloc (by simp) _
 have z0:w.heap.size+1 < W0.heap.size:=(Array.getElem?_eq_some_iff.1 r1).1
 have hC0:=hC.below hB0
 obtain ⟨Kk,hKk⟩:∃ K,k % 4294967296=K:=⟨_,rfl⟩
 have kb:0≤Kk∧Kk < 4294967296:=by omega
 have kw:IntKind.u32.wrap k=Kk:=by rw [IntKind.wrap_u32];exact hKk
 have kw2:IntKind.u64.wrap Kk=Kk:=by rw [IntKind.wrap_u64];omega
 have hk1:=fun W:World=>aCs Kk W (by omega) (by omega)
 have hk2:=fun W:World=>aCs e W e0 (by omega)
 obtain ⟨P,hP⟩:∃ P:Nat,(e % 8+8 - 1 - 1) % 8=(P:Int):=⟨((e % 8+8 - 1 - 1) % 8).toNat,by omega⟩
 have hP8:P < 8:=by omega
 have hPm:aRR e=P:=by unfold aRR;omega
 have hl:∀ W:World,Below W0.heap.size W0 W→(aDZ ⟨w.heap.size,723+32*P,none⟩).run Tryz.prog W=.ok (.agg (vs .u8 32 (aIz x e))) W:=fun W h=>aBa (fun j hj=>by
  rcases aTo ((h.block _ (by omega)).trans r0) with ⟨h,_⟩ | ⟨_,_,h⟩ | ⟨b,off,h1,_,_,_,h5⟩
  ·cases h
  ·cases h
  ·cases h1
   rw [Nat.add_assoc,h5 (32*P+j) (by omega)]
   unfold aIz
   rw [hPm])
 have hmb:∀ j,j < 32→0≤aIz x e j∧aIz x e j < 256:=fun j hj=>hx.o13 _ (by rw [hPm];omega)
 have ix:=fun W=>aIo W w.heap.size 723 P hP8
 obtain ⟨O,eO⟩:∃ O,723+32*P=O:=⟨_,rfl⟩
 rw [eO] at hl
 simp only [eO] at ix
 have hseed:aCP x e k=aCH KW HW (sdM Kk e (aIz x e)) 44:=by unfold aCP;rw [hKk]
 generalize aIz x e=mx at *
 obtain ⟨X,hX⟩:∃ X,aCH KW HW (sdM Kk e mx) 44=X:=⟨_,rfl⟩
 rw [hX] at hseed
 rw [hseed]
 have hsum:∀ (W:World) g C B,Below w.heap.size w W→W.ownsRow B 5 1 (.slice (some ⟨g,0,none⟩) 44 C) 44 (bl (sdM Kk e mx) 44)→Calls Tryz.prog 53 #[.slice (some ⟨g,0,none⟩) 44 C] W fun e w'=>e=.returned (.agg (vs .u8 32 X))∧Below W.heap.size W w':=fun W g C B h1 ho=>by
  rw [←hX]
  obtain ⟨q1,q2,q3,q4,q5⟩:=aBG ho
  exact aD4 KW (sdM Kk e mx) (some ⟨g,0,none⟩) 44 C W (hC.below h1) (.inr (.inr ⟨g,0,rfl,q3,q4,q2,fun j hj=>by rw [Nat.zero_add];exact q5 j hj⟩)) (fun j hj=>aOJ _ _ _ hmb j hj) (by omega)
 have v8a:=fun W=>aBY W (fun _=>0) (nmB Kk)
 have v8b:=fun W=>aBY W (fun _=>0) (nmB e)
 have v24:=fun W=>aBc W (fun _=>0) mx
 have z8:=aDn
 have zr:=aAj
 have HK1:=hid hk1
 have HK2:=hid hk2
 have HL:=hid hl
 have HSUM0:=hid hsum
 have HB0:=hid hB0
 have HW0:=hid hW0
 have HR1:=hid r1
 clear hk1 hk2 hl hsum hB0 hW0 r0 r1 hx hC hC0 hseed hmb hPm hX eO hKk
 go_enter Tryz.func96,Tryz.ntmps96
 go_upto_region 1 with fail
 rw [HW0.out]
 clear HW0
 go_upto_region 2 with (go_at_call 90;refine (HK1.out W0).mono ?_;rintro e' w1 ⟨rfl,hb1⟩)
 obtain ⟨W2,hW2⟩:∃ W,w1.alloc (.cells (vs .u8 8 (nmB Kk)) 135)=W:=⟨_,rfl⟩
 rw [hW2]
 have hz1:=hb1.size
 have rk:W2.heap[w1.heap.size]?=some (.cells (vs .u8 8 (nmB Kk)) 135):=by rw [←hW2];exact aA2 rfl
 have hD2:Below W0.heap.size W0 W2:=by rw [←hW2];exact hb1.alloc hz1 _
 obtain ⟨y1,ey1⟩:∃ y,w1.heap.size=y:=⟨_,rfl⟩
 rw [ey1] at rk ⊢
 have HRK:=hid rk
 have HD2:=hid hD2
 clear rk hD2 hW2 hb1 hz1 ey1
 go_upto_region 3 with (go_at_call 90;refine (HK2.out W2).mono ?_;rintro e' w2 ⟨rfl,hb2⟩)
 obtain ⟨W3,hW3⟩:∃ W,w2.alloc (.cells (vs .u8 8 (nmB e)) 135)=W:=⟨_,rfl⟩
 rw [hW3]
 have hz2:=hb2.size
 have hz0:=HD2.out.size
 have re:W3.heap[w2.heap.size]?=some (.cells (vs .u8 8 (nmB e)) 135):=by rw [←hW3];exact aA2 rfl
 have hE3:Below W2.heap.size W2 W3:=by rw [←hW3];exact hb2.alloc hz2 _
 have rk3:=(hE3.block _ (Array.getElem?_eq_some_iff.1 HRK.out).1).trans HRK.out
 have hD3:Below W0.heap.size W0 W3:=HD2.out.trans (hE3.mono hz0)
 obtain ⟨y2,ey2⟩:∃ y,w2.heap.size=y:=⟨_,rfl⟩
 rw [ey2] at re ⊢
 have l3:=HL.out W3 hD3
 have HRE:=hid re
 have HRK3:=hid rk3
 have HD3:=hid hD3
 clear re rk3 hD3 hE3 hW3 hb2 hz2 hz0 ey2 HRK HD2
 go_upto_region 4 with fail
 obtain ⟨W4,hW4⟩:∃ W,W3.alloc (.cells (vs .u8 32 mx) 24)=W:=⟨_,rfl⟩
 rw [hW4]
 have rm:W4.heap[W3.heap.size]?=some (.cells (vs .u8 32 mx) 24):=by rw [←hW4];exact aA2 rfl
 have hE4:Below W3.heap.size W3 W4:=by rw [←hW4];exact (Below.refl _ _).alloc (Nat.le_refl _) _
 have rk4:=(hE4.block _ (Array.getElem?_eq_some_iff.1 HRK3.out).1).trans HRK3.out
 have re4:=(hE4.block _ (Array.getElem?_eq_some_iff.1 HRE.out).1).trans HRE.out
 have hD4:Below W0.heap.size W0 W4:=HD3.out.trans (hE4.mono HD3.out.size)
 have hz4:=hD4.size
 have rr4:=(hD4.block _ z0).trans HR1.out
 obtain ⟨y3,ey3⟩:∃ y,W3.heap.size=y:=⟨_,rfl⟩
 rw [ey3] at rm ⊢
 have hB4:Below w.heap.size w W4:=HB0.out.trans (hD4.mono (by omega))
 have hap1:∀ W,Below W4.heap.size W4 W→∀ ty,∃g C w',(aDO ty (.slice (some ⟨W.heap.size,0,none⟩) 0 0) (.slice (some ⟨y1,0,none⟩) 4 8)).run Tryz.prog (W.alloc (.cells #[] 5))=.ok (.slice (some ⟨g,0,none⟩) 4 C) w'∧w'.ownsRow W4.heap.size 5 1 (.slice (some ⟨g,0,none⟩) 4 C) 4 (bl (sdM Kk e mx) 4)∧Below W4.heap.size W w':=fun W hW ty=>by
  have hz:=hW.size
  have hBn:Below W.heap.size W (W.alloc (.cells #[] 5)):=(Below.refl _ _).alloc (Nat.le_refl _) _
  obtain ⟨g,C,w',h1,h2,h3⟩:=aI9 (W.alloc (.cells #[] 5)) W4.heap.size _ 0 4 8 y1 (sdM Kk e mx) (nmB Kk) (World.ownsRow_made _ #[] 0 hz (Nat.zero_le _) rfl) (fun j hj=>aA8 ((hBn.block _ (Nat.lt_of_lt_of_le (Array.getElem?_eq_some_iff.1 rk4).1 hz)).trans ((hW.block _ (Array.getElem?_eq_some_iff.1 rk4).1).trans rk4)) j (by omega)) (fun j hj=>by unfold sdM;rw [Nat.zero_add,if_pos hj]) (by simp;omega) (by omega) (by omega) (by omega) ty
  rw [Nat.zero_add] at h1 h2
  exact ⟨g,C,w',h1,h2,(hBn.mono hz).trans h3⟩
 have hap2:∀ (W:World) g C,Below W4.heap.size W4 W→W.ownsRow W4.heap.size 5 1 (.slice (some ⟨g,0,none⟩) 4 C) 4 (bl (sdM Kk e mx) 4)→∀ ty,∃g' C' w',(aDO ty (.slice (some ⟨g,0,none⟩) 4 C) (.slice (some ⟨y2,0,none⟩) 8 8)).run Tryz.prog W=.ok (.slice (some ⟨g',0,none⟩) 12 C') w'∧w'.ownsRow W4.heap.size 5 1 (.slice (some ⟨g',0,none⟩) 12 C') 12 (bl (sdM Kk e mx) 12)∧Below W4.heap.size W w':=fun W g C hW ho ty =>
  aI9 W W4.heap.size _ 4 8 8 y2 (sdM Kk e mx) (nmB e) ho (fun j hj=>aA8 ((hW.block _ (Array.getElem?_eq_some_iff.1 re4).1).trans re4) j hj) (fun j hj=>by unfold sdM;rw [if_neg (by omega),if_pos (by omega),show 4+j - 4=j by omega]) hW.size (by omega) (by omega) (by omega) ty
 have hap3:∀ (W:World) g C,Below W4.heap.size W4 W→W.ownsRow W4.heap.size 5 1 (.slice (some ⟨g,0,none⟩) 12 C) 12 (bl (sdM Kk e mx) 12)→∀ ty,∃g' C' w',(aDO ty (.slice (some ⟨g,0,none⟩) 12 C) (.slice (some ⟨y3,0,none⟩) 32 32)).run Tryz.prog W=.ok (.slice (some ⟨g',0,none⟩) 44 C') w'∧w'.ownsRow W4.heap.size 5 1 (.slice (some ⟨g',0,none⟩) 44 C') 44 (bl (sdM Kk e mx) 44)∧Below W4.heap.size W w':=fun W g C hW ho ty =>
  aI9 W W4.heap.size _ 12 32 32 y3 (sdM Kk e mx) mx ho (fun j hj=>aA8 ((hW.block _ (Array.getElem?_eq_some_iff.1 rm).1).trans rm) j hj) (fun j hj=>by unfold sdM;rw [if_neg (by omega),if_neg (by omega),show 12+j - 12=j by omega]) hW.size (by omega) (by omega) (by omega) ty
 have hsum:∀ (W:World) g C,Below W4.heap.size W4 W→W.ownsRow W4.heap.size 5 1 (.slice (some ⟨g,0,none⟩) 44 C) 44 (bl (sdM Kk e mx) 44)→Calls Tryz.prog 53 #[.slice (some ⟨g,0,none⟩) 44 C] W fun e w'=>e=.returned (.agg (vs .u8 32 X))∧Below W.heap.size W w':=fun W g C h ho=>HSUM0.out W g C _ (hB4.trans (h.mono hB4.size)) ho
 have hdr:Below W4.heap.size W4 W4.drew:=(Below.refl _ _).drew
 have HAP1:=hid hap1
 have HAP2:=hid hap2
 have HAP3:=hid hap3
 have HSUM:=hid hsum
 have HDR:=hid hdr
 have HB4:=hid hB4
 have HRR:=hid rr4
 have HZR:=hid (show w.heap.size+1 < W4.heap.size by omega)
 clear hap1 hap2 hap3 hsum hdr hB4 rr4 rm rk4 re4 hE4 hD4 hW4 ey3 hz4 HSUM0 HB0 HR1 HRE HRK3 HD3 HL l3 v24 v8a v8b z8 zr HK1 HK2 ix
 refine wp_region_noPanic ?_
 refine wp_region_held_drew (S:=fun _=>True) (by kernel_rfl) (trivial) (fun hHeld=>?_)
 refine tk 1 (v:=?v17) ?y17 hHeld ?r17
 case y17=>intro w hSw;go_simp;try with_reducible rfl
 refine tk 3 (v:=?v18) ?y18 hHeld ?r18
 case y18=>intro w hSw;go_simp;try with_reducible rfl
 refine tk 5 (v:=?v19) ?y19 hHeld ?r19
 case y19=>intro w hSw;go_simp;try with_reducible rfl
 try simp only [Act.put,z_1,z_2,z_3,z_4,z_5,z_6,z_7]
 refine wpAnyH_ready (rs:=[0]) (by kernel_rfl) (by simp) ?_
 refine AllReadyH.cons rfl (fun K hK=>?_) AllReadyH.nil
 go_simp
 refine hK.out _ _ (trivial) (fun hHeld=>?_)
 clear hK K
 try simp only [Act.put,z_1,z_2,z_3,z_4,z_5,z_6,z_7]
 refine wpAnyH_ready (rs:=[2]) (by kernel_rfl) (by simp) ?_
 refine AllReadyH.cons rfl (fun K hK=>?_) AllReadyH.nil
 obtain ⟨g1,C1,w1,hap1,ho1,hb1⟩:=HAP1.out _ HDR.out 39
 refine aAo _ _ rfl _ _ _ _ rfl rfl hap1 ?_
 replace hb1:Below W4.heap.size W4 w1:=HDR.out.trans hb1
 refine hK.out _ _ (trivial) (fun hHeld=>?_)
 clear hK K
 try simp only [Act.put,z_1,z_2,z_3,z_4,z_5,z_6,z_7]
 refine wpAnyH_ready (rs:=[4]) (by kernel_rfl) (by simp) ?_
 refine AllReadyH.cons rfl (fun K hK=>?_) AllReadyH.nil
 obtain ⟨g2,C2,w2,hap2,ho2,hb2⟩:=HAP2.out w1 g1 C1 hb1 ho1 39
 refine aAo _ _ rfl _ _ _ _ rfl rfl hap2 ?_
 replace hb2:Below W4.heap.size W4 w2:=hb1.trans hb2
 refine hK.out _ _ (trivial) (fun hHeld=>?_)
 clear hK K
 try simp only [Act.put,z_1,z_2,z_3,z_4,z_5,z_6,z_7]
 refine wpAnyH_ready (rs:=[6]) (by kernel_rfl) (by simp) ?_
 refine AllReadyH.cons rfl (fun K hK=>?_) AllReadyH.nil
 obtain ⟨g3,C3,w3,hap3,ho3,hb3⟩:=HAP3.out w2 g2 C2 hb2 ho2 39
 refine aAo _ _ rfl _ _ _ _ rfl rfl hap3 ?_
 replace hb3:Below W4.heap.size W4 w3:=hb2.trans hb3
 refine hK.out _ _ (trivial) (fun hHeld=>?_)
 clear hK K
 try simp only [Act.put,z_1,z_2,z_3,z_4,z_5,z_6,z_7]
 refine wpAnyH_ready (rs:=[7]) (by kernel_rfl) (by simp) ?_
 refine AllReadyH.cons rfl (fun K hK=>?_) AllReadyH.nil
 go_simp
 refine (HSUM.out w3 g3 C3 hb3 ho3).mono ?_
 rintro e' w5 ⟨rfl,hb5⟩
 dsimp only
 replace hb5:Below W4.heap.size W4 w5:=hb3.trans (hb5.mono hb3.size)
 have r5:=(hb5.block _ HZR.out).trans HRR.out
 refine hK.out _ _ (trivial) (fun hHeld=>?_)
 clear hK K
 try simp only [Act.put,z_1,z_2,z_3,z_4,z_5,z_6,z_7]
 refine wpAnyH_ready (rs:=[8]) (by kernel_rfl) (by simp) ?_
 refine AllReadyH.cons rfl (fun K hK=>?_) AllReadyH.nil
 have v5:=aAv r5 X
 go_simp
 refine hK.out _ _ (trivial) (fun hHeld=>?_)
 clear hK K
 try simp only [Act.put,z_1,z_2,z_3,z_4,z_5,z_6,z_7]
 refine wpAnyH_done (by kernel_rfl) ?_ _
 refine NoPanic.normal ?_
 go_wp2
 have hzz:=HB4.out.size
 refine aC4 6 (w.heap.size+1) X 24 rfl rfl rfl (aA4 r5) ⟨rfl,?_⟩
 exact aA6 (HB4.out.trans (hb5.mono hzz)) (by omega) _
end
section
open Go.RowKit
theorem aKR (i m y : Nat) (hy : y < 2 ^ i) (h : 2 ^ i * m + y < 18446744073709551616) :
    bits .or .u64 ((2 ^ i*m:Nat):Int) (y:Int)=((2 ^ i*m+y:Nat):Int):=by
 rw [bits_or_u64_nat _ _ (by omega) (by omega),Nat.two_pow_add_eq_or_of_lt hy m]
theorem aHN (i m y : Nat) (hy : y < 2 ^ i) (h : 2 ^ i * m + y < 18446744073709551616) :
    bits .or .u64 (y:Int) ((2 ^ i*m:Nat):Int)=((2 ^ i*m+y:Nat):Int):=by
 rw [bits_or_u64_nat _ _ (by omega) (by omega),Nat.two_pow_add_eq_or_of_lt hy m,Nat.or_comm]
end
section
open Go.RowKit
set_option linter.unusedVariables false
set_option linter.unusedSimpArgs false
def bt (n:Int):Nat→Int
 | 0 => n % 256
 | 1 => n / 256 % 256
 | 2 => n / 65536 % 256
 | 3 => n / 16777216 % 256
 | 4 => n / 4294967296 % 256
 | 5 => n / 1099511627776 % 256
 | 6 => n / 281474976710656 % 256
 | _ => n / 72057594037927936 % 256
theorem aF5 (z:Int) (h0:0≤z) (h1:z < 18446744073709551616):bits .or .u64 0 z=z:=by
 obtain ⟨z,rfl⟩:=Int.eq_ofNat_of_zero_le h0
 have h:=bits_or_u64_nat 0 z (by omega) (by omega)
 rw [Nat.zero_or] at h
 exact h
theorem aCM (k:Nat) (A z P:Int) (hP:P=2 ^ k) (hA:0≤A) (hA':A < P) (hz:0≤z) (h:A+z*P < 18446744073709551616):bits .or .u64 A (z*P)=A+z*P:=by
 obtain ⟨A,rfl⟩:=Int.eq_ofNat_of_zero_le hA
 obtain ⟨z,rfl⟩:=Int.eq_ofNat_of_zero_le hz
 have ep:((2 ^ k:Nat):Int)=(2:Int) ^ k:=by simp
 have e:(z:Int)*P=((2 ^ k*z:Nat):Int):=by rw [Int.natCast_mul,ep,hP,Int.mul_comm]
 rw [hP,←ep] at hA'
 rw [e] at h ⊢
 rw [aHN k z A (by omega) (by omega)]
 omega
theorem aPG (hi l : Int) (s : Nat) (hh : 0 ≤ hi) (hl : 0 ≤ l) (hl' : l < 2 ^ s) (h : hi * 2 ^ s + l < 18446744073709551616) :
    bits .or .u64 (hi*2 ^ s) l=hi*2 ^ s+l:=by
 obtain ⟨hi,rfl⟩:=Int.eq_ofNat_of_zero_le hh
 obtain ⟨l,rfl⟩:=Int.eq_ofNat_of_zero_le hl
 have ep:((2 ^ s:Nat):Int)=(2:Int) ^ s:=by simp
 have e:(hi:Int)*2 ^ s=((2 ^ s*hi:Nat):Int):=by rw [Int.natCast_mul,ep,Int.mul_comm]
 rw [e] at h ⊢
 rw [←ep] at hl'
 rw [aKR s hi l (by omega) (by omega)]
 omega
theorem aCN (A z:Int) (hA:0≤A) (hz:0≤z) (hz':z≤255) (h:A*256+z < 18446744073709551616):bits .or .u64 (A*256) z=A*256+z:=by
 have:=aPG A z 8 hA hz (by omega) (by omega)
 exact this
theorem aSp {k l:IntKind} {a b c d:Int} (h1:a=c) (h2:b=d):Ending.returned (.tuple #[.int k a,.int l b])=.returned (.tuple #[.int k c,.int l d]):=by rw [h1,h2]
set_option maxHeartbeats 1000000 in
theorem aJ6 (n : Int) (w : World) (h0 : 0 ≤ n) (h1 : n < 18446744073709551616) :
    Calls Tryz.prog 105 #[.int .u64 n] w fun e w'=>e=.returned (.agg (vs .u8 8 (bt n)))∧Below w.heap.size w w':=by
 show Calls Tryz.prog 105 #[.int .u64 n] w fun e w'=>e=.returned (.agg #[.int .u8 (n % 256),.int .u8 (n / 256 % 256),.int .u8 (n / 65536 % 256),.int .u8 (n / 16777216 % 256),.int .u8 (n / 4294967296 % 256),.int .u8 (n / 1099511627776 % 256),.int .u8 (n / 281474976710656 % 256),.int .u8 (n / 72057594037927936 % 256)])∧Below w.heap.size w w'
 go_enter Tryz.func105,Tryz.ntmps105
 go_wp2
 go_rounds 9
 go_returns
 have e7:n / 72057594037927936 % 256=n / 72057594037927936:=by omega
 rw [e7]
 refine ⟨rfl,?_⟩
 go_grown
set_option maxHeartbeats 1000000 in
theorem aJm (n : Int) (w : World) (h0 : 0 ≤ n) (h1 : n < 18446744073709551616) :
    Calls Tryz.prog 90 #[.int .u64 n] w fun e w'=>e=.returned (.agg (vs .u8 8 (bt n)))∧Below w.heap.size w w':=by
 show Calls Tryz.prog 90 #[.int .u64 n] w fun e w'=>e=.returned (.agg #[.int .u8 (n % 256),.int .u8 (n / 256 % 256),.int .u8 (n / 65536 % 256),.int .u8 (n / 16777216 % 256),.int .u8 (n / 4294967296 % 256),.int .u8 (n / 1099511627776 % 256),.int .u8 (n / 281474976710656 % 256),.int .u8 (n / 72057594037927936 % 256)])∧Below w.heap.size w w'
 go_enter Tryz.func90,Tryz.ntmps90
 go_wp2
 go_rounds 9
 go_returns
 have e7:n / 72057594037927936 % 256=n / 72057594037927936:=by omega
 rw [e7]
 refine ⟨rfl,?_⟩
 go_grown
def aFx (z0 z1 z2 z3 z4 z5 z6 z7:Int):Int:=z0+z1*256+z2*65536+z3*16777216+z4*4294967296+z5*1099511627776+z6*281474976710656+z7*72057594037927936
set_option maxHeartbeats 1000000 in
theorem aSo (b off cap : Nat) (z0 z1 z2 z3 z4 z5 z6 z7 : Int) (w : World) (c0 : w.cell? ⟨b, off, none⟩ = some (.int .u8 z0)) (p0 : 0 ≤ z0) (q0 : z0 ≤ 255) (c1 : w.cell? ⟨b, off + 1, none⟩ = some (.int .u8 z1)) (p1 : 0 ≤ z1) (q1 : z1 ≤ 255) (c2 : w.cell? ⟨b, off + 2, none⟩ = some (.int .u8 z2)) (p2 : 0 ≤ z2) (q2 : z2 ≤ 255) (c3 : w.cell? ⟨b, off + 3, none⟩ = some (.int .u8 z3)) (p3 : 0 ≤ z3) (q3 : z3 ≤ 255) (c4 : w.cell? ⟨b, off + 4, none⟩ = some (.int .u8 z4)) (p4 : 0 ≤ z4) (q4 : z4 ≤ 255) (c5 : w.cell? ⟨b, off + 5, none⟩ = some (.int .u8 z5)) (p5 : 0 ≤ z5) (q5 : z5 ≤ 255) (c6 : w.cell? ⟨b, off + 6, none⟩ = some (.int .u8 z6)) (p6 : 0 ≤ z6) (q6 : z6 ≤ 255) (c7 : w.cell? ⟨b, off + 7, none⟩ = some (.int .u8 z7)) (p7 : 0 ≤ z7) (q7 : z7 ≤ 255) :
    Calls Tryz.prog 145 #[.slice (some ⟨b,off,none⟩) 8 cap] w fun e w'=>e=.returned (.tuple #[.int .u64 (aFx z0 z1 z2 z3 z4 z5 z6 z7),.int .i64 0])∧w'=w:=by
 have o0:bits .or .u64 0 z0=z0:=aF5 z0 p0 (by omega)
 obtain ⟨A1,e1⟩:∃ A,z0+z1*256=A:=⟨_,rfl⟩
 have o1:bits .or .u64 z0 (z1*256)=A1:=(aCM 8 z0 z1 256 (by decide) (by omega) (by omega) (by omega) (by omega)).trans e1
 obtain ⟨A2,e2⟩:∃ A,A1+z2*65536=A:=⟨_,rfl⟩
 have o2:bits .or .u64 A1 (z2*65536)=A2:=(aCM 16 A1 z2 65536 (by decide) (by omega) (by omega) (by omega) (by omega)).trans e2
 obtain ⟨A3,e3⟩:∃ A,A2+z3*16777216=A:=⟨_,rfl⟩
 have o3:bits .or .u64 A2 (z3*16777216)=A3:=(aCM 24 A2 z3 16777216 (by decide) (by omega) (by omega) (by omega) (by omega)).trans e3
 obtain ⟨A4,e4⟩:∃ A,A3+z4*4294967296=A:=⟨_,rfl⟩
 have o4:bits .or .u64 A3 (z4*4294967296)=A4:=(aCM 32 A3 z4 4294967296 (by decide) (by omega) (by omega) (by omega) (by omega)).trans e4
 obtain ⟨A5,e5⟩:∃ A,A4+z5*1099511627776=A:=⟨_,rfl⟩
 have o5:bits .or .u64 A4 (z5*1099511627776)=A5:=(aCM 40 A4 z5 1099511627776 (by decide) (by omega) (by omega) (by omega) (by omega)).trans e5
 obtain ⟨A6,e6⟩:∃ A,A5+z6*281474976710656=A:=⟨_,rfl⟩
 have o6:bits .or .u64 A5 (z6*281474976710656)=A6:=(aCM 48 A5 z6 281474976710656 (by decide) (by omega) (by omega) (by omega) (by omega)).trans e6
 obtain ⟨A7,e7⟩:∃ A,A6+z7*72057594037927936=A:=⟨_,rfl⟩
 have o7:bits .or .u64 A6 (z7*72057594037927936)=A7:=(aCM 56 A6 z7 72057594037927936 (by decide) (by omega) (by omega) (by omega) (by omega)).trans e7
 have en:A7=aFx z0 z1 z2 z3 z4 z5 z6 z7:=by unfold aFx;omega
 have EN:=hid en
 clear en e1 e2 e3 e4 e5 e6 e7
 go_enter Tryz.func145,Tryz.ntmps145
 go_wp2
 go_rounds 9
 go_ret2
 exact ⟨aSp EN.out rfl,rfl⟩
set_option maxHeartbeats 1000000 in
theorem aOG (b off cap : Nat) (z0 z1 z2 z3 z4 z5 z6 z7 : Int) (w : World) (c0 : w.cell? ⟨b, off, none⟩ = some (.int .u8 z0)) (p0 : 0 ≤ z0) (q0 : z0 ≤ 255) (c1 : w.cell? ⟨b, off + 1, none⟩ = some (.int .u8 z1)) (p1 : 0 ≤ z1) (q1 : z1 ≤ 255) (c2 : w.cell? ⟨b, off + 2, none⟩ = some (.int .u8 z2)) (p2 : 0 ≤ z2) (q2 : z2 ≤ 255) (c3 : w.cell? ⟨b, off + 3, none⟩ = some (.int .u8 z3)) (p3 : 0 ≤ z3) (q3 : z3 ≤ 255) (c4 : w.cell? ⟨b, off + 4, none⟩ = some (.int .u8 z4)) (p4 : 0 ≤ z4) (q4 : z4 ≤ 255) (c5 : w.cell? ⟨b, off + 5, none⟩ = some (.int .u8 z5)) (p5 : 0 ≤ z5) (q5 : z5 ≤ 255) (c6 : w.cell? ⟨b, off + 6, none⟩ = some (.int .u8 z6)) (p6 : 0 ≤ z6) (q6 : z6 ≤ 255) (c7 : w.cell? ⟨b, off + 7, none⟩ = some (.int .u8 z7)) (p7 : 0 ≤ z7) (q7 : z7 ≤ 255) :
    Calls Tryz.prog 140 #[.slice (some ⟨b,off,none⟩) 8 cap] w fun e w'=>e=.returned (.tuple #[.int .u64 (aFx z0 z1 z2 z3 z4 z5 z6 z7),.int .i64 0])∧w'=w:=by
 have o7:bits .or .u64 0 z7=z7:=aF5 z7 p7 (by omega)
 obtain ⟨H6,e6⟩:∃ H,z7*256+z6=H:=⟨_,rfl⟩
 have o6:bits .or .u64 (z7*256) z6=H6:=(aCN z7 z6 (by omega) (by omega) (by omega) (by omega)).trans e6
 obtain ⟨H5,e5⟩:∃ H,H6*256+z5=H:=⟨_,rfl⟩
 have o5:bits .or .u64 (H6*256) z5=H5:=(aCN H6 z5 (by omega) (by omega) (by omega) (by omega)).trans e5
 obtain ⟨H4,e4⟩:∃ H,H5*256+z4=H:=⟨_,rfl⟩
 have o4:bits .or .u64 (H5*256) z4=H4:=(aCN H5 z4 (by omega) (by omega) (by omega) (by omega)).trans e4
 obtain ⟨H3,e3⟩:∃ H,H4*256+z3=H:=⟨_,rfl⟩
 have o3:bits .or .u64 (H4*256) z3=H3:=(aCN H4 z3 (by omega) (by omega) (by omega) (by omega)).trans e3
 obtain ⟨H2,e2⟩:∃ H,H3*256+z2=H:=⟨_,rfl⟩
 have o2:bits .or .u64 (H3*256) z2=H2:=(aCN H3 z2 (by omega) (by omega) (by omega) (by omega)).trans e2
 obtain ⟨H1,e1⟩:∃ H,H2*256+z1=H:=⟨_,rfl⟩
 have o1:bits .or .u64 (H2*256) z1=H1:=(aCN H2 z1 (by omega) (by omega) (by omega) (by omega)).trans e1
 obtain ⟨H0,e0⟩:∃ H,H1*256+z0=H:=⟨_,rfl⟩
 have o0:bits .or .u64 (H1*256) z0=H0:=(aCN H1 z0 (by omega) (by omega) (by omega) (by omega)).trans e0
 have en:H0=aFx z0 z1 z2 z3 z4 z5 z6 z7:=by unfold aFx;omega
 have EN:=hid en
 have b6:0≤H6∧H6 < 65536:=by omega
 have b5:0≤H5∧H5 < 16777216:=by omega
 have b4:0≤H4∧H4 < 4294967296:=by omega
 have b3:0≤H3∧H3 < 1099511627776:=by omega
 have b2:0≤H2∧H2 < 281474976710656:=by omega
 have b1:0≤H1∧H1 < 72057594037927936:=by omega
 clear en e0 e1 e2 e3 e4 e5 e6
 go_enter Tryz.func140,Tryz.ntmps140
 go_wp2
 go_rounds 9
 go_ret2
 exact ⟨aSp EN.out rfl,rfl⟩
end
section
set_option linter.unusedVariables false
def fl (i n p:Int):Int:=(p+n - i) % n
theorem aTr {i n p:Int} (h0:0≤i) (h1:i < n) (p0:0≤p) (p1:p < n) (h:p < i):fl i n p=p+n - i:=Int.emod_eq_of_lt (by omega) (by omega)
theorem aTq {i n p:Int} (h0:0≤i) (h1:i < n) (p0:0≤p) (p1:p < n) (h:i≤p):fl i n p=p - i:=by
 unfold fl
 rw [show p+n - i=(p - i)+n by omega,Int.add_emod_right]
 exact Int.emod_eq_of_lt (by omega) (by omega)
theorem aPj {i n p:Int} (h0:0≤i) (h1:i < n) (p0:0≤p) (p1:p < n):0≤fl i n p∧fl i n p < n:=by
 by_cases h:p < i
 ·rw [aTr h0 h1 p0 p1 h];omega
 ·rw [aTq h0 h1 p0 p1 (by omega)];omega
def mx (a b:Int):Int:=if a < b then b else a
def rdX (B:Int→Bool) (p n i:Int):Int:=if B (mx i (fl i n p))=true then fl i n p else i
theorem aSn (B:Int→Bool) {i n p:Int} (h0:0≤i) (h1:i < n) (p0:0≤p) (p1:p < n):0≤rdX B p n i∧rdX B p n i < n:=by
 unfold rdX
 split
 ·exact aPj h0 h1 p0 p1
 ·exact ⟨h0,h1⟩
end
section
open Go.RowKit
set_option linter.unusedVariables false
set_option linter.unusedSimpArgs false
def sd1 (s:Nat→Int) (r:Int) (j:Nat):Int:=if j < 32 then s j else r
def sd2 (s:Nat→Int) (r q:Int) (j:Nat):Int:=if j < 33 then sd1 s r j else bt q (j - 33)
def pvN (s:Nat→Int) (r:Int):Int:=aFx (aCH KW HW (sd1 s r) 33 0) (aCH KW HW (sd1 s r) 33 1) (aCH KW HW (sd1 s r) 33 2) (aCH KW HW (sd1 s r) 33 3) (aCH KW HW (sd1 s r) 33 4) (aCH KW HW (sd1 s r) 33 5) (aCH KW HW (sd1 s r) 33 6) (aCH KW HW (sd1 s r) 33 7)
def pv (s:Nat→Int) (r n:Int):Int:=pvN s r % n
theorem aPD {z0 z1 z2 z3 z4 z5 z6 z7:Int} (h0:0≤z0∧z0 < 256) (h1:0≤z1∧z1 < 256) (h2:0≤z2∧z2 < 256) (h3:0≤z3∧z3 < 256) (h4:0≤z4∧z4 < 256) (h5:0≤z5∧z5 < 256) (h6:0≤z6∧z6 < 256) (h7:0≤z7∧z7 < 256):0≤aFx z0 z1 z2 z3 z4 z5 z6 z7∧aFx z0 z1 z2 z3 z4 z5 z6 z7 < 18446744073709551616:=by
 unfold aFx
 omega
theorem aOC (s:Nat→Int) (r:Int):0≤pvN s r∧pvN s r < 18446744073709551616:=aPD (aBU ..) (aBU ..) (aBU ..) (aBU ..) (aBU ..) (aBU ..) (aBU ..) (aBU ..)
theorem aNc (s:Nat→Int) (r:Int) {n:Int} (h:0 < n):0≤pv s r n∧pv s r n < n:=⟨Int.emod_nonneg _ (by omega),Int.emod_lt_of_pos _ h⟩
def aQe (s:Nat→Int) (r q:Int):Nat→Int:=aCH KW HW (sd2 s r q) 37
def aNU (f:Nat→Int) (p:Int):Bool:=decide (f (p % 256 / 8).toNat / 2 ^ (p % 8).toNat % 2=1)
def rdB (s:Nat→Int) (r:Int) (p:Int):Bool:=aNU (aQe s r (p / 256)) p
def rdV (s:Nat→Int) (r n i:Int):Int:=rdX (rdB s r) (pv s r n) n i
theorem aSm (s:Nat→Int) (r:Int) {n i:Int} (h0:0≤i) (h1:i < n):0≤rdV s r n i∧rdV s r n i < n :=
 aSn _ h0 h1 (aNc s r (by omega)).1 (aNc s r (by omega)).2
theorem aLt {s:Nat→Int} {r:Int} (hs:∀ j,j < 32→0≤s j∧s j < 256) (hr:0≤r∧r < 256) (j:Nat):0≤sd1 s r j∧sd1 s r j < 256:=by
 unfold sd1
 split
 ·exact hs j ‹_›
 ·exact hr
theorem aTl (n:Int) (j:Nat):0≤bt n j∧bt n j < 256:=by
 unfold bt
 split<;>exact ⟨Int.emod_nonneg _ (by decide),Int.emod_lt_of_pos _ (by decide)⟩
theorem aOI {s:Nat→Int} {r:Int} (hs:∀ j,j < 32→0≤s j∧s j < 256) (hr:0≤r∧r < 256) (q:Int) (j:Nat):0≤sd2 s r q j∧sd2 s r q j < 256:=by
 unfold sd2
 split
 ·exact aLt hs hr j
 ·exact aTl q _
theorem aMJ (i n p : Int) (w : World) (h0 : 0 ≤ i) (h1 : i < n) (hn : n ≤ 4294967296) (p0 : 0 ≤ p) (p1 : p < n) :
    Calls Tryz.prog 141 #[.int .u64 i,.int .u64 n,.int .u64 p] w fun e w'=>e=.returned (.int .u64 (fl i n p))∧w'=w:=by
 go_enter Tryz.func141,Tryz.ntmps141
 go_wp2
 go_ret
 exact ⟨aB9 rfl,rfl⟩
def isP (i n:Int):Bool:=decide (n≤4294967296) && decide (i < n)
theorem aHD (i n : Int) (w : World) :
    Calls Tryz.prog 138 #[.int .u64 i,.int .u64 n] w fun e w'=>e=.returned (.bool (isP i n))∧w'=w:=by
 by_cases h:n≤4294967296
 ·by_cases h2:i < n
  all_goals
   have e:isP i n=decide (i < n):=by unfold isP;simp [h]
   have E:=hid e
   clear e
   go_enter Tryz.func138,Tryz.ntmps138
   go_wp2
   go_ret
   exact ⟨aBX (by rw [E.out];simp [h2]),rfl⟩
 ·have e:isP i n=false:=by unfold isP;simp [h]
  have E:=hid e
  clear e
  go_enter Tryz.func138,Tryz.ntmps138
  go_wp2
  go_ret
  exact ⟨aBX (by rw [E.out]),rfl⟩
theorem aMp (x:Int) (hx:0≤x) (hx':x < 256):bits .and .u8 x 1=x % 2:=by
 obtain ⟨x,rfl⟩:=Int.eq_ofNat_of_zero_le hx
 have h:=u8_and_nat x 1 (by omega) (by omega)
 have e:x &&& 1=x % 2:=Nat.and_one_is_mod x
 rw [e] at h
 have h':bits .and .u8 (x:Int) 1=((x % 2:Nat):Int):=h
 rw [h']
 omega
theorem aSH (x:Int) (k:Nat) (h0:0≤x) (h1:x < 256):0≤x / 2 ^ k∧x / 2 ^ k < 256:=by
 have hp:(0:Int) < 2 ^ k:=Int.pow_pos (by decide)
 refine ⟨Int.ediv_nonneg h0 (by omega),?_⟩
 have:=Int.ediv_le_self (2 ^ k) h0
 omega
theorem aNV (f:Nat→Int) (p:Int) (hf:∀ j,j < 32→0≤f j∧f j < 256) (h0:0≤p) (K:Nat) (hK:K=(p % 8).toNat):(bits .and .u8 (f (p % 256 / 8).toNat / 2 ^ K) 1 == 1)=aNU f p:=by
 subst hK
 have hj:(p % 256 / 8).toNat < 32:=by omega
 have hb:=hf _ hj
 have hs:=aSH _ (p % 8).toNat hb.1 hb.2
 rw [aMp _ hs.1 hs.2]
 unfold aNU
 rw [Bool.eq_iff_iff]
 simp
attribute [local go_sem ↓] aAu aAt aBJ
set_option maxRecDepth 20000 in
set_option maxHeartbeats 1000000 in
theorem aKu (f : Nat → Int) (p : Int) (w : World) (hf : ∀ j, j < 32 → 0 ≤ f j ∧ f j < 256) (h0 : 0 ≤ p) (h1 : p < 18446744073709551616) :
    Calls Tryz.prog 143 #[.agg (vs .u8 32 f),.int .u64 p] w fun e w'=>e=.returned (.bool (aNU f p))∧Below w.heap.size w w':=by
 obtain ⟨J,hJ⟩:∃ J:Nat,p % 256 / 8=(J:Int):=⟨(p % 256 / 8).toNat,by omega⟩
 obtain ⟨K,hK⟩:∃ K:Nat,p % 256 % 8=(K:Int):=⟨(p % 256 % 8).toNat,by omega⟩
 have hJ':J < 32:=by omega
 have hK':K < 8:=by omega
 have hb:=aNV f p hf h0 K (by omega)
 rw [hJ,Int.toNat_natCast] at hb
 have HB:=hid hb
 have hfj:=hf J hJ'
 obtain ⟨W,hW⟩:∃ W,w.alloc (.cells (vs .u8 32 f) 24)=W:=⟨_,rfl⟩
 have r0:W.heap[w.heap.size]?=some (.cells (vs .u8 32 f) 24):=by rw [←hW];exact aA2 rfl
 have hB:Below w.heap.size w W:=by rw [←hW];exact (Below.refl _ _).alloc (Nat.le_refl _) _
 have c0:=aA8 r0 J hJ'
 have HBE:=hid hB
 have j1:(0:Int)≤(J:Int):=by omega
 have j2:(J:Int) < 32:=by omega
 have k1:(0:Int)≤(K:Int):=by omega
 have k2:(K:Int) < 8:=by omega
 have HW:=hid hW
 clear hb hf r0 hB hW
 go_enter Tryz.func143,Tryz.ntmps143
 go_upto_region 1 with fail
 rw [HW.out]
 clear HW
 go_wp2
 go_ret
 exact ⟨aBX HB.out,HBE.out⟩
end
end Go.Proofs.YtdjplhibmomajaaGreatDoor
