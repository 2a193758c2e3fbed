/- A part. -/
import Derived.Test.YtdjplhibmomajaaGreatDoorQG
import Derived.Test.YtdjplhibmomajaaGreatDoorQA
import Derived.Test.YtdjplhibmomajaaGreatDoorPkB
import Derived.ArgAppend
namespace Go.Proofs.YtdjplhibmomajaaGreatDoor
open Go.RowKit
set_option linter.unusedVariables false
set_option linter.unusedSimpArgs false
section
open Go.RowKit
set_option linter.unusedVariables false
set_option linter.unusedSimpArgs false
set_option maxRecDepth 20000
set_option maxHeartbeats 1000000 in
theorem aDK (n : Int) (w : World) (h0 : 0 ≤ n) (h1 : n ≤ 18446744073709551615) :
    Calls Tryz.prog 105 #[.int .u64 n] w fun e w'=>e=.returned (.agg (vs .u8 8 (nmB n)))∧Below w.heap.size w w':=by
 have e0:vs .u8 8 (nmB n)=#[.int .u8 (n % 256),.int .u8 (n / 256 % 256),.int .u8 (n / 65536 % 256),.int .u8 (n / 16777216 % 256),.int .u8 (n / 4294967296 % 256),.int .u8 (n / 1099511627776 % 256),.int .u8 (n / 281474976710656 % 256),.int .u8 (n / 72057594037927936)]:=by
  have e7:n / 72057594037927936=n / 72057594037927936 % 256:=by omega
  have e1:n % 256=n / 1 % 256:=by omega
  rw [e7,e1]
  rfl
 rw [e0]
 clear e0
 go_enter Tryz.func105,Tryz.ntmps105
 go_wp2
 go_rounds 9
 go_returns
 exact ⟨rfl,by go_grown⟩
theorem aKz (a b : Int) (w : World) (ha : 0 ≤ a) (ha' : a < 18446744073709551616) (hb : 0 ≤ b) (hb' : b < 18446744073709551616) :
    Calls Tryz.prog 88 #[.int .u64 a,.int .u64 b] w fun e w'=>e=.returned (.int .u64 (aHm a b))∧w'=w:=by
 by_cases h:a < b
 ·have e0:aHm a b=0:=by unfold aHm;rw [if_pos h]
  rw [e0]
  clear e0
  go_enter Tryz.func88,Tryz.ntmps88
  go_wp2
  go_ret
  exact ⟨rfl,rfl⟩
 ·have e0:aHm a b=a - b:=by unfold aHm;rw [if_neg h]
  rw [e0]
  clear e0
  go_enter Tryz.func88,Tryz.ntmps88
  go_wp2
  go_ret
  exact ⟨rfl,rfl⟩
theorem aPC (k:Int) (j:Nat) (hj:j < 4):nmB (k % 18446744073709551616) j=nmB (k % 4294967296) j:=by
 unfold nmB
 obtain rfl | rfl | rfl | rfl:j=0∨j=1∨j=2∨j=3:=by omega
 all_goals simp only [Nat.mul_zero,Nat.mul_one,Nat.reduceMul,Int.reducePow,Int.pow_zero,Int.ediv_one]
 all_goals omega
theorem aGt {P : Program} {ops : Array Oper} {rest : List Oper} {o : Oper} {a : Act} {w : World} {Q : Exit → Act → World → Prop} (hgd : o.guard = none) (s x : Operand)
    (ho:o.op=.call { callee:=.builtin .append,args:=#[s,x],argTypes:=#[39,39] }) (ws wx v:Value) (w':World) (hs:a.eval s=ws) (hx:a.eval x=wx)
    (hrun:(aDO o.type ws wx).run P w=.ok v w') (h:wpList P ops Q rest (a.put o.dst v) w'):wpList P ops Q (o :: rest) a w :=
 wpList_plain hgd fun K hK=>aAo s x ho ws wx v w' hs hx hrun (hK _ _ h)
attribute [local go_sem ↓] aAq aAr aAz aAi aAl aAw aAu aAt aAQ aBJ aKv
set_option maxHeartbeats 2000000 in
theorem aNo (x : aA1) (e k : Int) (w : World) (hx : aAD x) (e0 : 0 ≤ e) (e1 : e < 18446744073709551616) (hS : Sh w) :
    Calls Tryz.prog 86 #[.agg (cel (aA0 x)),.int .u64 e,.int .i64 k] w fun e' w'=>e'=.returned (.agg (vs .u8 32 (aCP x e k)))∧Below w.heap.size w w':=by
 obtain ⟨W0,hW0⟩:∃ W,(w.alloc (.cells (cel (aA0 x)) 49)).alloc (.cells (vs .u8 32 fun _=>0) 24)=W:=⟨_,rfl⟩
 have r0:W0.heap[w.heap.size]?=some (.cells (cel (aA0 x)) 49):=by rw [←hW0];exact (aAc (by simp)).trans (aA2 rfl)
 have r1:W0.heap[w.heap.size+1]?=some (.cells (vs .u8 32 fun _=>0) 24):=by rw [←hW0];exact aA2 (by simp)
 have hB0:Below w.heap.size w W0:=by rw [←hW0];exact ((Below.refl _ _).alloc (Nat.le_refl _) _).alloc (by simp) _
 have z0:w.heap.size+1 < W0.heap.size:=(Array.getElem?_eq_some_iff.1 r1).1
 obtain ⟨Kk,hKk⟩:∃ K,k % 4294967296=K:=⟨_,rfl⟩
 have kb:0≤Kk∧Kk < 4294967296:=by omega
 have hlow:=aPC k
 obtain ⟨U,hU⟩:∃ U,k % 18446744073709551616=U:=⟨_,rfl⟩
 have kw:IntKind.u64.wrap k=U:=by rw [IntKind.wrap_u64];exact hU
 rw [hKk,hU] at hlow
 have hk1:=fun W:World=>aDK U W (by omega) (by omega)
 have hk2:=fun W:World=>aDK e W e0 (by omega)
 obtain ⟨P,hP⟩:∃ P:Nat,(e % 8+8 - 1 - 1) % 8=(P:Int):=⟨((e % 8+8 - 1 - 1) % 8).toNat,by omega⟩
 have hP8:P < 8:=by omega
 have hPm:aRR e=P:=by unfold aRR;omega
 have hl:∀ W:World,Below W0.heap.size W0 W→(aDZ ⟨w.heap.size,723+32*P,none⟩).run Tryz.prog W=.ok (.agg (vs .u8 32 (aIz x e))) W:=fun W h=>aBa (fun j hj=>by
  rcases aTo ((h.block _ (by omega)).trans r0) with ⟨h,_⟩ | ⟨_,_,h⟩ | ⟨b,off,h1,_,_,_,h5⟩
  ·cases h
  ·cases h
  ·cases h1
   rw [Nat.add_assoc,h5 (32*P+j) (by omega)]
   unfold aIz
   rw [hPm])
 have hmb:∀ j,j < 32→0≤aIz x e j∧aIz x e j < 256:=fun j hj=>hx.o13 _ (by rw [hPm];omega)
 have ix:=fun W=>aIo W w.heap.size 723 P hP8
 obtain ⟨O,eO⟩:∃ O,723+32*P=O:=⟨_,rfl⟩
 rw [eO] at hl
 simp only [eO] at ix
 have hseed:aCP x e k=aCH KW HW (sdM Kk e (aIz x e)) 44:=by unfold aCP;rw [hKk]
 generalize aIz x e=mx at *
 obtain ⟨X,hX⟩:∃ X,aCH KW HW (sdM Kk e mx) 44=X:=⟨_,rfl⟩
 rw [hX] at hseed
 rw [hseed]
 have hsum:∀ (W:World) g C B,Below w.heap.size w W→W.ownsRow B 5 1 (.slice (some ⟨g,0,none⟩) 44 C) 44 (bl (sdM Kk e mx) 44)→Calls Tryz.prog 113 #[.slice (some ⟨g,0,none⟩) 44 C] W fun e w'=>e=.returned (.agg (vs .u8 32 X))∧Below W.heap.size W w':=fun W g C B h1 ho=>by
  rw [←hX]
  obtain ⟨q1,q2,q3,q4,q5⟩:=aBG ho
  exact aHZ KW HW (sdM Kk e mx) 44 C g 0 W (hS.below h1).1 (hS.below h1).2 aHo (fun j hj=>by rw [Nat.zero_add];exact q5 j hj) (fun j hj=>aOJ _ _ _ hmb j hj) q2 (by omega) q3 q4
 have v8a:=fun W=>aBY W (fun _=>0) (nmB U)
 have v8b:=fun W=>aBY W (fun _=>0) (nmB e)
 have v24:=fun W=>aBc W (fun _=>0) mx
 have z8:=aDn
 have zr:=aAj
 have HK1:=hid hk1
 have HK2:=hid hk2
 have HL:=hid hl
 have HSUM0:=hid hsum
 have HB0:=hid hB0
 have HW0:=hid hW0
 have HR1:=hid r1
 clear hk1 hk2 hl hsum hB0 hW0 r0 r1 hx hS hseed hmb hPm hX eO hKk hU
 go_enter Tryz.func86,Tryz.ntmps86
 go_upto_region 1 with fail
 rw [HW0.out]
 clear HW0
 go_upto_region 2 with (go_at_call 105;refine (HK1.out W0).mono ?_;rintro e' w1 ⟨rfl,hb1⟩)
 obtain ⟨W2,hW2⟩:∃ W,w1.alloc (.cells (vs .u8 8 (nmB U)) 135)=W:=⟨_,rfl⟩
 rw [hW2]
 have hz1:=hb1.size
 have rk:W2.heap[w1.heap.size]?=some (.cells (vs .u8 8 (nmB U)) 135):=by rw [←hW2];exact aA2 rfl
 have hD2:Below W0.heap.size W0 W2:=by rw [←hW2];exact hb1.alloc hz1 _
 obtain ⟨y1,ey1⟩:∃ y,w1.heap.size=y:=⟨_,rfl⟩
 rw [ey1] at rk ⊢
 have HRK:=hid rk
 have HD2:=hid hD2
 clear rk hD2 hW2 hb1 hz1 ey1
 go_upto_region 3 with (go_at_call 105;refine (HK2.out W2).mono ?_;rintro e' w2 ⟨rfl,hb2⟩)
 obtain ⟨W3,hW3⟩:∃ W,w2.alloc (.cells (vs .u8 8 (nmB e)) 135)=W:=⟨_,rfl⟩
 rw [hW3]
 have hz2:=hb2.size
 have hz0:=HD2.out.size
 have re:W3.heap[w2.heap.size]?=some (.cells (vs .u8 8 (nmB e)) 135):=by rw [←hW3];exact aA2 rfl
 have hE3:Below W2.heap.size W2 W3:=by rw [←hW3];exact hb2.alloc hz2 _
 have rk3:=(hE3.block _ (Array.getElem?_eq_some_iff.1 HRK.out).1).trans HRK.out
 have hD3:Below W0.heap.size W0 W3:=HD2.out.trans (hE3.mono hz0)
 obtain ⟨y2,ey2⟩:∃ y,w2.heap.size=y:=⟨_,rfl⟩
 rw [ey2] at re ⊢
 have l3:=HL.out W3 hD3
 have HRE:=hid re
 have HRK3:=hid rk3
 have HD3:=hid hD3
 clear re rk3 hD3 hE3 hW3 hb2 hz2 hz0 ey2 HRK HD2
 go_upto_region 4 with fail
 obtain ⟨W4,hW4⟩:∃ W,W3.alloc (.cells (vs .u8 32 mx) 24)=W:=⟨_,rfl⟩
 rw [hW4]
 have rm:W4.heap[W3.heap.size]?=some (.cells (vs .u8 32 mx) 24):=by rw [←hW4];exact aA2 rfl
 have hE4:Below W3.heap.size W3 W4:=by rw [←hW4];exact (Below.refl _ _).alloc (Nat.le_refl _) _
 have rk4:=(hE4.block _ (Array.getElem?_eq_some_iff.1 HRK3.out).1).trans HRK3.out
 have re4:=(hE4.block _ (Array.getElem?_eq_some_iff.1 HRE.out).1).trans HRE.out
 have hD4:Below W0.heap.size W0 W4:=HD3.out.trans (hE4.mono HD3.out.size)
 have hz4:=hD4.size
 have rr4:=(hD4.block _ z0).trans HR1.out
 obtain ⟨y3,ey3⟩:∃ y,W3.heap.size=y:=⟨_,rfl⟩
 rw [ey3] at rm ⊢
 have hB4:Below w.heap.size w W4:=HB0.out.trans (hD4.mono (by omega))
 have hap1:∀ W,Below W4.heap.size W4 W→∀ ty,∃g C w',(aDO ty (.slice (some ⟨y1,0,none⟩) 4 8) (.slice (some ⟨y2,0,none⟩) 8 8)).run Tryz.prog W=.ok (.slice (some ⟨g,0,none⟩) 12 C) w'∧w'.ownsRow W4.heap.size 5 1 (.slice (some ⟨g,0,none⟩) 12 C) 12 (bl (sdM Kk e mx) 12)∧Below W4.heap.size W w':=fun W hW ty=>by
  obtain ⟨i,hi,hz0,hz1,hz2⟩:=info_parts aDb
  have hz:=hW.size
  obtain ⟨v',w',hr,ho,hg⟩:=run_append_arg_grows (P:=Tryz.prog) W 39 ty 5 i (.int .u8 0) 1 1 Tryz.underlying39 hi hz0 hz1 hz2 rfl (by decide) ⟨y1,0,none⟩ 4 8 (bl (nmB U) 4) (by rw [aAV])
   (fun j u hj=>by
    obtain ⟨h1,rfl⟩:=aBD (nmB U) 4 j u hj
    rw [addr_add,Nat.zero_add]
    exact aA8 ((hW.block _ (Array.getElem?_eq_some_iff.1 rk4).1).trans rk4) j (by omega)) ⟨y2,0,none⟩ 8 8 (bl (nmB e) 8) (by rw [aAV])
   (fun j u hj=>by
    obtain ⟨h1,rfl⟩:=aBD (nmB e) 8 j u hj
    rw [addr_add,Nat.zero_add]
    exact aA8 ((hW.block _ (Array.getElem?_eq_some_iff.1 re4).1).trans re4) j h1) (by omega) (by unfold maxLen;omega) (by omega)
  have ee:bl (nmB U) 4++bl (nmB e) 8=bl (sdM Kk e mx) 12:=by
   rw [aCE (m:=nmB U) (m':=sdM Kk e mx) (fun j hj=>by unfold sdM;rw [if_pos hj,hlow j hj])]
   exact aEn _ _ 4 8 (fun j hj=>by unfold sdM;rw [if_neg (by omega),if_pos (by omega),show 4+j - 4=j by omega])
  rw [ee] at ho
  obtain ⟨g,C,rfl⟩:=aC3 ho (by omega)
  exact ⟨g,C,w',hr,ho.mono hz,⟨hg.os,hg.tape,hg.output,hg.size,fun k hk=>hg.block k (by omega) (fun e=>by cases e)⟩⟩
 have hap3:∀ (W:World) g C,Below W4.heap.size W4 W→W.ownsRow W4.heap.size 5 1 (.slice (some ⟨g,0,none⟩) 12 C) 12 (bl (sdM Kk e mx) 12)→∀ ty,∃g' C' w',(aDO ty (.slice (some ⟨g,0,none⟩) 12 C) (.slice (some ⟨y3,0,none⟩) 32 32)).run Tryz.prog W=.ok (.slice (some ⟨g',0,none⟩) 44 C') w'∧w'.ownsRow W4.heap.size 5 1 (.slice (some ⟨g',0,none⟩) 44 C') 44 (bl (sdM Kk e mx) 44)∧Below W4.heap.size W w':=fun W g C hW ho ty =>
  aI9 W W4.heap.size _ 12 32 32 y3 (sdM Kk e mx) mx ho (fun j hj=>aA8 ((hW.block _ (Array.getElem?_eq_some_iff.1 rm).1).trans rm) j hj) (fun j hj=>by unfold sdM;rw [if_neg (by omega),if_neg (by omega),show 12+j - 12=j by omega]) hW.size (by omega) (by omega) (by omega) ty
 have hsum:∀ (W:World) g C,Below W4.heap.size W4 W→W.ownsRow W4.heap.size 5 1 (.slice (some ⟨g,0,none⟩) 44 C) 44 (bl (sdM Kk e mx) 44)→Calls Tryz.prog 113 #[.slice (some ⟨g,0,none⟩) 44 C] W fun e w'=>e=.returned (.agg (vs .u8 32 X))∧Below W.heap.size W w':=fun W g C h ho=>HSUM0.out W g C _ (hB4.trans (h.mono hB4.size)) ho
 have hdr:Below W4.heap.size W4 W4.drew:=(Below.refl _ _).drew
 have HAP1:=hid hap1
 have HAP3:=hid hap3
 have HSUM:=hid hsum
 have HDR:=hid hdr
 have HB4:=hid hB4
 have HRR:=hid rr4
 have HZR:=hid (show w.heap.size+1 < W4.heap.size by omega)
 clear hap1 hap3 hsum hdr hB4 rr4 rm rk4 re4 hE4 hD4 hW4 ey3 hz4 HSUM0 HB0 HR1 HRE HRK3 HD3 HL l3 v24 v8a v8b z8 zr HK1 HK2 ix
 refine wp_region_noPanic ?_
 refine wp_region_held_drew (S:=fun _=>True) (by kernel_rfl) (trivial) (fun hHeld=>?_)
 refine tk 0 (v:=?v1) ?y1 hHeld ?r1
 case y1=>intro w hSw;go_simp;try with_reducible rfl
 refine tk 1 (v:=?v2) ?y2 hHeld ?r2
 case y2=>intro w hSw;go_simp;try with_reducible rfl
 try simp only [Act.put,z_1,z_2,z_3,z_4,z_5,z_6,z_7]
 refine wpAnyH_ready (rs:=[2]) (by kernel_rfl) (by simp) ?_
 refine AllReadyH.cons rfl (fun K hK=>?_) AllReadyH.nil
 obtain ⟨g2,C2,w2,hap2,ho2,hb2⟩:=HAP1.out _ HDR.out 39
 refine aAo _ _ rfl _ _ _ _ rfl rfl hap2 ?_
 replace hb2:Below W4.heap.size W4 w2:=HDR.out.trans hb2
 refine hK.out _ _ (trivial) (fun hHeld=>?_)
 clear hK K
 try simp only [Act.put,z_1,z_2,z_3,z_4,z_5,z_6,z_7]
 refine tk 3 (v:=?v3) ?y3 hHeld ?r3
 case y3=>intro w hSw;go_simp;try with_reducible rfl
 try simp only [Act.put,z_1,z_2,z_3,z_4,z_5,z_6,z_7]
 refine wpAnyH_done (by kernel_rfl) ?_ _
 refine NoPanic.normal ?_
 have HO2:=hid ho2
 have HB2:=hid hb2
 clear ho2 hb2 hHeld hlow kw
 go_wp2_with (first
  | (at_builtin; obtain ⟨g3, C3, w3, hap3, ho3, hb3⟩ := HAP3.out w2 g2 C2 HB2.out HO2.out 39; refine aGt rfl _ _ rfl _ _ _ _ rfl rfl hap3 ?_; replace hb3 : Below W4.heap.size W4 w3 := HB2.out.trans hb3)
  | (go_at_call 113; refine (HSUM.out w3 g3 C3 hb3 ho3).mono ?_; rintro e' w5 ⟨rfl, hb5⟩; replace hb5 : Below W4.heap.size W4 w5 := hb3.trans (hb5.mono hb3.size); have r5 := (hb5.block _ HZR.out).trans HRR.out; have v5 := aAv r5 X))
 have hzz:=HB4.out.size
 refine aC4 6 (w.heap.size+1) X 24 rfl rfl rfl (aA4 r5) ⟨rfl,?_⟩
 exact aA6 (HB4.out.trans (hb5.mono hzz)) (by omega) _
end
section
open Go.RowKit
set_option linter.unusedVariables false
set_option linter.unusedSimpArgs false
set_option maxRecDepth 20000
theorem aMr (W : World) (b y cp : Nat) (s c : Nat → Int) (m : Nat → Int) (k : Nat) (hb : ∀ j, j < 32 → W.cell? ⟨b, j, none⟩ = some (.int .u8 (s j))) (hl : b < W.heap.size) (hy : ∀ j, j < k → W.cell? ⟨y, j, none⟩ = some (.int .u8 (c j))) (h0 : 0 < k) (hk : k ≤ 64) (hm1 : ∀ j, j < 32 → m j = s j) (hm2 : ∀ j, j < k → m (32 + j) = c j) (ty : TypeId) :
    ∃ g C w',(aDO ty (.slice (some ⟨b,0,none⟩) 32 32) (.slice (some ⟨y,0,none⟩) k cp)).run Tryz.prog W=.ok (.slice (some ⟨g,0,none⟩) (32+k) C) w'∧w'.ownsRow W.heap.size 5 1 (.slice (some ⟨g,0,none⟩) (32+k) C) (32+k) (bl m (32+k))∧Below W.heap.size W w':=by
 obtain ⟨i,hi,hz0,hz1,hz2⟩:=info_parts aDb
 obtain ⟨v',w',hr,ho,hg⟩:=run_append_arg_grows (P:=Tryz.prog) W 39 ty 5 i (.int .u8 0) 1 1 Tryz.underlying39 hi hz0 hz1 hz2 rfl (by decide) ⟨b,0,none⟩ 32 32 (bl s 32) (by rw [aAV])
  (fun j u hj=>by
   obtain ⟨h1,rfl⟩:=aBD s 32 j u hj
   rw [addr_add,Nat.zero_add]
   exact hb j h1) ⟨y,0,none⟩ k cp (bl c k) (by rw [aAV,Nat.mul_one]) (fun j u hj=>by
   obtain ⟨h1,rfl⟩:=aBD c k j u hj
   rw [addr_add,Nat.zero_add]
   exact hy j h1) (by omega) (by unfold maxLen;omega) (by omega)
 have e:bl s 32++bl c k=bl m (32+k):=by
  rw [aCE (m:=s) (m':=m) (fun j hj=>(hm1 j hj).symm)]
  exact aEn m c 32 k hm2
 rw [e] at ho
 obtain ⟨g,C,rfl⟩:=aC3 ho (by omega)
 exact ⟨g,C,w',hr,ho,⟨hg.os,hg.tape,hg.output,hg.size,fun k hk=>hg.block k hk (fun e=>by cases e)⟩⟩
attribute [local go_sem ↓] aAu aAt aBJ
set_option maxHeartbeats 1000000 in
theorem aHh (s : Nat → Int) (q : Int) (w : World) (hs : ∀ j, j < 32 → 0 ≤ s j ∧ s j < 256) (q0 : 0 ≤ q) (q1 : q < 18446744073709551616) (hS : Sh w) :
    Calls Tryz.prog 85 #[.agg (vs .u8 32 s),.int .u64 q] w fun e' w'=>e'=.returned (.agg (vs .u8 32 (aCH KW HW (sd8 s q) 40)))∧Below w.heap.size w w':=by
 obtain ⟨W0,hW0⟩:∃ W,(w.alloc (.cells (vs .u8 32 s) 24)).alloc (.cells (vs .u8 32 fun _=>0) 24)=W:=⟨_,rfl⟩
 have r0:W0.heap[w.heap.size]?=some (.cells (vs .u8 32 s) 24):=by rw [←hW0];exact (aAc (by simp)).trans (aA2 rfl)
 have r1:W0.heap[w.heap.size+1]?=some (.cells (vs .u8 32 fun _=>0) 24):=by rw [←hW0];exact aA2 (by simp)
 have hB0:Below w.heap.size w W0:=by rw [←hW0];exact ((Below.refl _ _).alloc (Nat.le_refl _) _).alloc (by simp) _
 have z0:w.heap.size+1 < W0.heap.size:=aAe r1
 have hk1:=fun W:World=>aDK q W q0 (by omega)
 obtain ⟨X,hX⟩:∃ X,aCH KW HW (sd8 s q) 40=X:=⟨_,rfl⟩
 have hsum:∀ (W:World) g C B,Below w.heap.size w W→W.ownsRow B 5 1 (.slice (some ⟨g,0,none⟩) 40 C) 40 (bl (sd8 s q) 40)→Calls Tryz.prog 113 #[.slice (some ⟨g,0,none⟩) 40 C] W fun e w'=>e=.returned (.agg (vs .u8 32 X))∧Below W.heap.size W w':=fun W g C B h1 ho=>by
  rw [←hX]
  obtain ⟨q1,q2,q3,q4,q5⟩:=aBG ho
  exact aHZ KW HW (sd8 s q) 40 C g 0 W (hS.below h1).1 (hS.below h1).2 aHo (fun j hj=>by rw [Nat.zero_add];exact q5 j hj) (fun j hj=>aLu hs _ _) q2 (by omega) q3 q4
 rw [hX]
 have v8:=fun W=>aBY W (fun _=>0) (nmB q)
 have z8:=aDn
 have zr:=aAj
 have hsd1:∀ j,j < 32→sd8 s q j=s j:=fun j hj=>by unfold sd8;rw [if_pos hj]
 have hsd2:∀ j,j < 8→sd8 s q (32+j)=nmB q j:=fun j hj=>by unfold sd8;rw [if_neg (by omega),show 32+j - 32=j by omega]
 have HK1:=hid hk1
 have HSU:=hid hsum
 have HB0:=hid hB0
 have HW0:=hid hW0
 have HR:=hid (And.intro r0 r1)
 have HSD:=hid (And.intro hsd1 hsd2)
 clear hk1 hsum hB0 hW0 r0 r1 hS hs hX q0 q1 hsd1 hsd2
 go_enter Tryz.func85,Tryz.ntmps85
 go_upto_region 1 with fail
 rw [HW0.out]
 clear HW0
 go_upto_region 2 with (go_at_call 105;refine (HK1.out W0).mono ?_;rintro e' w1 ⟨rfl,hb1⟩)
 obtain ⟨W2,hW2⟩:∃ W,w1.alloc (.cells (vs .u8 8 (nmB q)) 135)=W:=⟨_,rfl⟩
 rw [hW2]
 have hz1:=hb1.size
 have rk:W2.heap[w1.heap.size]?=some (.cells (vs .u8 8 (nmB q)) 135):=by rw [←hW2];exact aA2 rfl
 have hD2:Below W0.heap.size W0 W2:=by rw [←hW2];exact hb1.alloc hz1 _
 obtain ⟨y1,ey1⟩:∃ y,w1.heap.size=y:=⟨_,rfl⟩
 rw [ey1] at rk ⊢
 have hap:∀ (W:World),Below W2.heap.size W2 W→∀ ty:TypeId,∃g C w',(aDO ty (.slice (some ⟨w.heap.size,0,none⟩) 32 32) (.slice (some ⟨y1,0,none⟩) 8 8)).run Tryz.prog W=.ok (.slice (some ⟨g,0,none⟩) 40 C) w'∧w'.ownsRow W2.heap.size 5 1 (.slice (some ⟨g,0,none⟩) 40 C) 40 (bl (sd8 s q) 40)∧Below W2.heap.size W2 w':=fun W hW ty=>by
  have y2:=aAe rk
  have l0:=hD2.size
  obtain ⟨g,C,w',h1,h2,h3⟩:=aMr W w.heap.size y1 8 s (nmB q) (sd8 s q) 8 (fun j hj=>aA8 ((hW.block _ (by omega)).trans ((hD2.block _ (by omega)).trans HR.out.1)) j hj) (by have:=hW.size;omega) (fun j hj=>aA8 ((hW.block _ y2).trans rk) j hj) (by omega) (by omega) HSD.out.1 HSD.out.2 ty
  exact ⟨g,C,w',h1,h2.mono hW.size,hW.trans (h3.mono hW.size)⟩
 have hdr:Below W2.heap.size W2 W2.drew:=(Below.refl _ _).drew
 have hsum:∀ (W:World) g C B,Below W2.heap.size W2 W→W.ownsRow B 5 1 (.slice (some ⟨g,0,none⟩) 40 C) 40 (bl (sd8 s q) 40)→Calls Tryz.prog 113 #[.slice (some ⟨g,0,none⟩) 40 C] W fun e w'=>e=.returned (.agg (vs .u8 32 X))∧Below W.heap.size W w':=fun W g C B h1 ho=>HSU.out W g C B (HB0.out.trans ((hD2.trans (h1.mono hD2.size)).mono HB0.out.size)) ho
 have HAP:=hid hap
 have HDR:=hid hdr
 have HSUM:=hid hsum
 have HR1:=hid ((hD2.block _ z0).trans HR.out.2)
 have HBE:=hid (HB0.out.trans (hD2.mono HB0.out.size))
 clear hap hdr hsum hD2 hW2 rk hb1 hz1 ey1 HR HSD HSU HK1
 refine wp_region_noPanic ?_
 refine wp_region_held_drew (S:=fun _=>True) (by kernel_rfl) (trivial) (fun hHeld=>?_)
 refine tk 0 (v:=?v1) ?y1 hHeld ?r1
 case y1=>intro w hSw;go_simp;try with_reducible rfl
 refine tk 1 (v:=?v2) ?y2 hHeld ?r2
 case y2=>intro w hSw;go_simp;try with_reducible rfl
 try simp only [Act.put,z_1,z_2,z_3,z_4,z_5,z_6,z_7]
 refine wpAnyH_ready (rs:=[2]) (by kernel_rfl) (by simp) ?_
 refine AllReadyH.cons rfl (fun K hK=>?_) AllReadyH.nil
 obtain ⟨g1,C1,x1,hap1,ho1,hc1⟩:=HAP.out _ HDR.out 39
 refine aAo _ _ rfl _ _ _ _ rfl rfl hap1 ?_
 refine hK.out _ _ (trivial) (fun hHeld=>?_)
 clear hK K
 try simp only [Act.put,z_1,z_2,z_3,z_4,z_5,z_6,z_7]
 refine wpAnyH_ready (rs:=[3]) (by kernel_rfl) (by simp) ?_
 refine AllReadyH.cons rfl (fun K hK=>?_) AllReadyH.nil
 go_simp
 refine (HSUM.out x1 g1 C1 _ hc1 ho1).mono ?_
 rintro e' x2 ⟨rfl,hc2⟩
 dsimp only
 replace hc2:Below W2.heap.size W2 x2:=hc1.trans (hc2.mono hc1.size)
 refine hK.out _ _ (trivial) (fun hHeld=>?_)
 clear hK K
 try simp only [Act.put,z_1,z_2,z_3,z_4,z_5,z_6,z_7]
 refine wpAnyH_ready (rs:=[4]) (by kernel_rfl) (by simp) ?_
 refine AllReadyH.cons rfl (fun K hK=>?_) AllReadyH.nil
 have r4:=(hc2.block _ (aAe HR1.out)).trans HR1.out
 have v3:=aAv r4 X
 go_simp
 refine hK.out _ _ (trivial) (fun hHeld=>?_)
 clear hK K
 try simp only [Act.put,z_1,z_2,z_3,z_4,z_5,z_6,z_7]
 refine wpAnyH_done (by kernel_rfl) ?_ _
 refine NoPanic.normal ?_
 go_wp2
 have hzz:=HBE.out.size
 refine aC4 4 (w.heap.size+1) X 24 rfl rfl rfl (aA4 r4) ⟨rfl,?_⟩
 exact aA6 (HBE.out.trans (hc2.mono hzz)) (by omega) _
end
end Go.Proofs.YtdjplhibmomajaaGreatDoor
