/- A part. -/
import Derived.Test.YtdjplhibmomajaaGreatDoorSgB
import Derived.Test.YtdjplhibmomajaaGreatDoorQJ
namespace Go.Proofs.YtdjplhibmomajaaGreatDoor
open Go.RowKit
set_option linter.unusedVariables false
set_option linter.unusedSimpArgs false
section
open Go.RowKit
set_option linter.unusedVariables false
set_option linter.unusedSimpArgs false
set_option maxRecDepth 20000
attribute [local go_sem ↓] aAu aAt aBJ aAF aAL
set_option maxHeartbeats 2000000 in
theorem aL6 (q f : Nat → Int) (a : Option Addr) (n cap : Nat) (w : World) (hr : Rts w a n cap f) (hn : n ≤ 9223372036854775807) :
    Calls Tryz.prog 27 #[.agg (vs .u8 32 q),.slice a n cap] w fun e' w'=>e'=.returned (.bool (gdB q f n))∧Below w.heap.size w w':=by
 obtain ⟨W0,hW0⟩:∃ W,w.alloc (.cells (vs .u8 32 q) 24)=W:=⟨_,rfl⟩
 have r0:W0.heap[w.heap.size]?=some (.cells (vs .u8 32 q) 24):=by rw [←hW0];exact aA2 rfl
 have hB0:Below w.heap.size w W0:=by rw [←hW0];exact (Below.refl _ _).alloc (Nat.le_refl _) _
 have z0:w.heap.size < W0.heap.size:=aAe r0
 have hr0:=hr.below hB0
 have hlq:∀ W:World,Below W0.heap.size W0 W→(aDZ ⟨w.heap.size,0,none⟩).run Tryz.prog W=.ok (.agg (vs .u8 32 q)) W:=fun W h=>aAU ((h.block _ z0).trans r0)
 have HB:=hid hB0
 have HW:=hid hW0
 have HRR:=hid hr0
 have HLQ:=hid hlq
 clear hB0 hW0 r0 hr hr0 hlq
 go_enter Tryz.func27,Tryz.ntmps27
 go_upto_region 1 with fail
 rw [HW.out]
 clear HW
 go_wp2
 go_loopw [5] (fun i wr=>∃ k:Nat,k≤n∧i=.int .i64 k∧gdB q f k=true∧Below W0.heap.size W0 wr) (fun i _=>n - (intOf i).toNat)
 case atStart=>exact ⟨0,by omega,rfl,aIm q f,Below.refl _ _⟩
 case round =>
  obtain ⟨k,hk,rfl,hg,hb⟩:=hrel
  by_cases hlt:k < n
  ·have k1:(k:Int) < (n:Int):=by omega
   have k2:IntKind.i64.wrap ((k:Int)+1)=(k:Int)+1:=by rw [IntKind.wrap_i64];omega
   obtain ⟨b1,o1,hb1,hx1,hc1⟩:=HRR.out.at k hlt
   have hla:∀ W,Below W0.heap.size W0 W→(aDZ ⟨b1,o1,none⟩).run Tryz.prog W=.ok (.agg (vs .u8 32 (aCT f k))) W:=fun W h=>aBa (fun j hj=>(aAk h hb1).trans (hc1 j hj))
   have hst:=aIk q f k
   have hgt:=@aIl q f n
   obtain ⟨R,eR⟩:∃ R,aCT f k=R:=⟨_,rfl⟩
   rw [eR] at hla hst
   have HIX:=hid hx1
   have HLA:=hid hla
   have HST:=hid hst
   have HGT:=hid hgt
   have HG:=hid hg
   have HER:=hid eR
   have HDR:=hid hb.drew
   clear hx1 hla hst hgt hg hb hc1 hb1 eR
   cases he:eqR R q
   ·have HEQ:=hid he
    go_upto_region 4 with fail
    refine wp_region_noPanic ?_
    refine wp_region_held_drew (S:=fun W=>Below W0.heap.size W0 W) (by kernel_rfl) (HDR.out) (fun hHeld=>?_)
    refine tk 0 (v:=?v305) ?y305 hHeld ?r305
    case y305=>intro w hSw;go_simp;try with_reducible rfl
    refine tk 1 (v:=?v306) ?y306 hHeld ?r306
    case y306=>intro w hSw;go_simp;try with_reducible rfl
    refine tk 2 (v:=?v307) ?y307 hHeld ?r307
    case y307=>intro w hSw;have ld0:=HIX.out w;go_simp;try with_reducible rfl
    refine tk 3 (v:=?v308) ?y308 hHeld ?r308
    case y308=>intro w hSw;have ld0:=HLA.out w hSw;go_simp;try with_reducible rfl
    refine tk 4 (v:=?v309) ?y309 hHeld ?r309
    case y309=>intro w hSw;have ld0:=HLQ.out w hSw;go_simp;try with_reducible rfl
    try simp only [Act.put,z_1,z_2,z_3,z_4,z_5,z_6,z_7]
    refine wpAnyH_take (i:=5) rfl (by kernel_rfl) (by kernel_rfl) (by kernel_rfl) (fun _ _ _ h=>h) (aDL (by rfl) _ _ _ rfl R q rfl rfl) hHeld ?_
    rw [HEQ.out]
    try simp only [Act.put,z_1,z_2,z_3,z_4,z_5,z_6,z_7]
    refine wpAnyH_done (by kernel_rfl) ?_ _
    refine NoPanic.normal ?_
    go_wp2
    go_roundw
    case rel=>exact ⟨k+1,by omega,by go_num,by rw [HST.out,HG.out,HEQ.out];rfl,HDR.out⟩
    case measure=>simp [intOf];omega
   ·have HEQ:=hid he
    have hF:gdB q f n=false:=by
     cases h:gdB q f n
     ·rfl
     ·have h2:=HGT.out.1 h k hlt
      rw [HER.out,HEQ.out] at h2
      cases h2
    have HF:=hid hF
    clear hF
    go_upto_region 4 with fail
    refine wp_region_noPanic ?_
    refine wp_region_held_drew (S:=fun W=>Below W0.heap.size W0 W) (by kernel_rfl) (HDR.out) (fun hHeld=>?_)
    refine tk 0 (v:=?v310) ?y310 hHeld ?r310
    case y310=>intro w hSw;go_simp;try with_reducible rfl
    refine tk 1 (v:=?v311) ?y311 hHeld ?r311
    case y311=>intro w hSw;go_simp;try with_reducible rfl
    refine tk 2 (v:=?v312) ?y312 hHeld ?r312
    case y312=>intro w hSw;have ld0:=HIX.out w;go_simp;try with_reducible rfl
    refine tk 3 (v:=?v313) ?y313 hHeld ?r313
    case y313=>intro w hSw;have ld0:=HLA.out w hSw;go_simp;try with_reducible rfl
    refine tk 4 (v:=?v314) ?y314 hHeld ?r314
    case y314=>intro w hSw;have ld0:=HLQ.out w hSw;go_simp;try with_reducible rfl
    try simp only [Act.put,z_1,z_2,z_3,z_4,z_5,z_6,z_7]
    refine wpAnyH_take (i:=5) rfl (by kernel_rfl) (by kernel_rfl) (by kernel_rfl) (fun _ _ _ h=>h) (aDL (by rfl) _ _ _ rfl R q rfl rfl) hHeld ?_
    rw [HEQ.out]
    try simp only [Act.put,z_1,z_2,z_3,z_4,z_5,z_6,z_7]
    refine wpAnyH_done (by kernel_rfl) ?_ _
    refine NoPanic.normal ?_
    go_wp2
    go_ret
    exact ⟨by rw [HF.out];rfl,HB.out.trans (HDR.out.mono HB.out.size)⟩
  ·obtain rfl:k=n:=by omega
   have HBB:=hid hb
   have HG:=hid hg
   clear hg hb
   go_wp2
   go_ret
   exact ⟨by rw [HG.out];rfl,HB.out.trans (HBB.out.mono HB.out.size)⟩
end
section
open Go.RowKit
set_option linter.unusedVariables false
set_option linter.unusedSimpArgs false
set_option maxRecDepth 20000
theorem aJR (W : World) (B : Nat) (v : Value) (n k cp b : Nat) (m c : Nat → Int) (ho : W.ownsRow B 5 1 v n (bl m n)) (hb : ∀ j, j < k → W.cell? ⟨b, j, none⟩ = some (.int .u8 (c j))) (hm : ∀ j, j < k → m (n + j) = c j) (hB : B ≤ W.heap.size) (hn : n + k ≤ 140737488353280) (hk0 : 0 < k) (ty : TypeId) :
    ∃ g' C' w',(aDO ty v (.slice (some ⟨b,0,none⟩) k cp)).run Tryz.prog W=.ok (.slice (some ⟨g',0,none⟩) (n+k) C') w'∧w'.ownsRow B 5 1 (.slice (some ⟨g',0,none⟩) (n+k) C') (n+k) (bl m (n+k))∧Below B W w':=by
 obtain ⟨i,hi,hz0,hz1,hz2⟩:=info_parts aDb
 obtain ⟨v',w',hr,ho',hg,_⟩:=run_append_own_at (P:=Tryz.prog) W B 39 ty 5 i (.int .u8 0) 1 1 Tryz.underlying39 hi hz0 hz1 hz2 rfl (by decide) v n (bl m n) ho ⟨b,0,none⟩ k cp (bl c k) (by rw [aAV,Nat.mul_one])
  (fun j u hj=>by
   obtain ⟨h1,rfl⟩:=aBD c k j u hj
   rw [addr_add,Nat.zero_add]
   exact hb j h1) (aC0 c k) (by unfold maxLen;omega) (by omega) hB
 rw [aEn m c n k hm] at ho'
 obtain ⟨g',C',rfl⟩:=aC3 ho' (by omega)
 exact ⟨g',C',w',hr,ho',below_grown (Below.refl _ _) ho hB hg⟩
theorem aOE (f r s:Nat→Int) (n j:Nat) (h:j < 48*n):qsF f n r s j=f j:=by unfold qsF;rw [if_pos h]
theorem aOF (f r s:Nat→Int) (n j:Nat) (h:j < 32):qsF f n r s (48*n+j)=r j:=by unfold qsF;rw [if_neg (by omega),if_pos (by omega),show 48*n+j - 48*n=j by omega]
theorem aIJ (f r s:Nat→Int) (n j:Nat):qsF f n r s (48*n+32+j)=s j:=by unfold qsF;rw [if_neg (by omega),if_neg (by omega),show 48*n+32+j - (48*n+32)=j by omega]
attribute [local go_sem ↓] aF0 aDx aEx aAu aAt aHq aAL
set_option maxHeartbeats 4000000 in
theorem aG8 (a : Option Addr) (n cap : Nat) (f r s : Nat → Int) (w : World) (hk : Kys w a n cap f) (hf : ∀ j, j < 48 * n → 0 ≤ f j ∧ f j < 256) (hr : ∀ j, j < 32 → 0 ≤ r j ∧ r j < 256) (hs : ∀ j, j < 96 → 0 ≤ s j ∧ s j < 256) (hn : 48 * n ≤ 140737488351232) (hC : Tab w 1 64 KW) :
    Calls Tryz.prog 24 #[.slice a n cap,.agg (vs .u8 32 r),.agg (vs .u8 96 s)] w fun e' w'=>e'=.returned (.agg (vs .u8 32 (qsV f n r s)))∧Below w.heap.size w w':=by
 obtain ⟨W0,hW0⟩:∃ W,((w.alloc (.cells (vs .u8 32 r) 24)).alloc (.cells (vs .u8 96 s) 51)).alloc (.cells (vs .u8 32 fun _=>0) 24)=W:=⟨_,rfl⟩
 have r0:W0.heap[w.heap.size]?=some (.cells (vs .u8 32 r) 24):=by rw [←hW0];exact (aAc (by simp<;>omega)).trans ((aAc (by simp)).trans (aA2 rfl))
 have r1:W0.heap[w.heap.size+1]?=some (.cells (vs .u8 96 s) 51):=by rw [←hW0];exact (aAc (by simp)).trans (aA2 (by simp))
 have r2:W0.heap[w.heap.size+2]?=some (.cells (vs .u8 32 fun _=>0) 24):=by rw [←hW0];exact aA2 (by simp)
 have hB0:Below w.heap.size w W0:=by rw [←hW0];exact (((Below.refl _ _).alloc (Nat.le_refl _) _).alloc (by simp) _).alloc (by simp<;>omega) _
 have z2:w.heap.size+2 < W0.heap.size:=aAe r2
 have hk0:=hk.below hB0
 have hC0:=hC.below hB0
 have zr:=aAj
 have hap1:∀ (W:World) v,Below W0.heap.size W0 W→W.ownsRow W0.heap.size 5 1 v (48*n) (bl (qsF f n r s) (48*n))→∀ ty:TypeId,∃g C w',(aDO ty v (.slice (some ⟨w.heap.size,0,none⟩) 32 32)).run Tryz.prog W=.ok (.slice (some ⟨g,0,none⟩) (48*n+32) C) w'∧w'.ownsRow W0.heap.size 5 1 (.slice (some ⟨g,0,none⟩) (48*n+32) C) (48*n+32) (bl (qsF f n r s) (48*n+32))∧Below W0.heap.size W0 w':=fun W v h ho ty=>by
  obtain ⟨g,C,w',h1,h2,h3⟩:=aJR W W0.heap.size v (48*n) 32 32 w.heap.size (qsF f n r s) r ho (fun j hj=>aA8 ((h.block _ (by omega)).trans r0) j hj) (fun j hj=>aOF f r s n j hj) h.size (by omega) (by omega) ty
  exact ⟨g,C,w',h1,h2,h.trans h3⟩
 have hap2:∀ (W:World) g C,Below W0.heap.size W0 W→W.ownsRow W0.heap.size 5 1 (.slice (some ⟨g,0,none⟩) (48*n+32) C) (48*n+32) (bl (qsF f n r s) (48*n+32))→∀ ty:TypeId,∃g' C' w',(aDO ty (.slice (some ⟨g,0,none⟩) (48*n+32) C) (.slice (some ⟨w.heap.size+1,0,none⟩) 96 96)).run Tryz.prog W=.ok (.slice (some ⟨g',0,none⟩) (48*n+128) C') w'∧w'.ownsRow W0.heap.size 5 1 (.slice (some ⟨g',0,none⟩) (48*n+128) C') (48*n+128) (bl (qsF f n r s) (48*n+128))∧Below W0.heap.size W0 w':=fun W g C h ho ty=>by
  obtain ⟨g',C',w',h1,h2,h3⟩:=aJR W W0.heap.size _ (48*n+32) 96 96 (w.heap.size+1) (qsF f n r s) s ho (fun j hj=>aA8 ((h.block _ (by omega)).trans r1) j hj) (fun j hj=>aIJ f r s n j) h.size (by omega) (by omega) ty
  exact ⟨g',C',w',h1,h2,h.trans h3⟩
 have hsu:∀ (W:World) g C,Below W0.heap.size W0 W→W.ownsRow W0.heap.size 5 1 (.slice (some ⟨g,0,none⟩) (48*n+128) C) (48*n+128) (bl (qsF f n r s) (48*n+128))→Calls Tryz.prog 53 #[.slice (some ⟨g,0,none⟩) (48*n+128) C] W fun e w'=>e=.returned (.agg (vs .u8 32 (qsV f n r s)))∧Below W.heap.size W w':=fun W g C h ho=>aFb KW (qsF f n r s) (some ⟨g,0,none⟩) (48*n+128) C W (hC0.below h) (aCO ho) (aOD hf hr hs) (by omega)
 have hq1:=aOE f r s n
 generalize qsV f n r s=X at hsu ⊢
 generalize qsF f n r s=QF at hap1 hap2 hsu hq1
 have HB:=hid hB0
 have HW:=hid hW0
 have HK:=hid hk0
 have HAP1:=hid hap1
 have HAP2:=hid hap2
 have HSU:=hid hsu
 have HR2:=hid r2
 have HQ1:=hid hq1
 clear hB0 hW0 hk0 hk hap1 hap2 hsu hC hC0 hf hr hs r0 r1 r2 hq1
 go_enter Tryz.func24,Tryz.ntmps24
 go_upto_region 1 with fail
 rw [HW.out]
 clear HW zr
 go_wp2
 go_loopg [7,8] n (fun k v c wr=>∃ (i:Nat) (v':Value),v=v'∧c=.int .i64 i∧i≤n∧n - i≤k∧wr.ownsRow W0.heap.size 5 1 v' (48*i) (bl f (48*i))∧Below W0.heap.size W0 wr)
 case atStart=>exact ⟨0,_,rfl,rfl,by omega,by omega,World.ownsRow_nil _ _ _ _,Below.refl _ _⟩
 case round =>
  obtain ⟨i,v,ev,rfl,hi,hk,ho,hw⟩:=hrel
  obtain rfl:=ev.symm
  clear ev
  by_cases hin:i < n
  ·have h1:(i:Int) < (n:Int):=by omega
   rcases HK.out.below hw with ⟨_,h0,_⟩ | ⟨_,_,h0⟩ | ⟨b,off,ea,hlc,hbl,hc⟩
   ·omega
   ·omega
   subst ea
   have ix:=fun W=>aIp W b off n cap i hin
   have hby:Bys wr (some ⟨b,off+48*i,none⟩) 48 48 (fun j=>f (48*i+j)):=.inr (.inr ⟨b,off+48*i,rfl,by omega,by omega,hbl,fun j hj=>by rw [Nat.add_assoc];exact hc (48*i+j) (by omega)⟩)
   have HO:=hid ho
   have HWW:=hid hw
   have HBY:=hid hby
   clear ho hw hby hc hbl
   obtain ⟨P,eP⟩:∃ P,off+48*i=P:=⟨_,rfl⟩
   rw [eP] at HBY
   simp only [eP] at ix
   go_wp2_with (at_builtin;(refine aAb wr rfl _ _ rfl W0.heap.size v (48*i) (bl f (48*i)) rfl HO.out (some ⟨b,P,none⟩) 48 48 _ rfl HBY.out (by omega) HWW.out.size ?_);intro v2 w2 ho2 hg2)
   have hb2:=below_grown HWW.out HO.out HWW.out.size hg2
   rw [aEn f _ (48*i) 48 (fun j _=>rfl)] at ho2
   go_roundg (n - (i+1))
   case measure=>omega
   case rel=>exact ⟨i+1,_,rfl,by simp,by omega,Nat.le_refl _,by rw [show 48*(i+1)=48*i+48 by omega];exact ho2,hb2⟩
  ·obtain rfl:i=n:=by omega
   have ho':=ho
   rw [aJW (m:=f) (m':=QF) (fun j hj=>(HQ1.out j hj).symm)] at ho'
   have hdr:Below W0.heap.size W0 wr.drew:=hw.drew
   have hod:wr.drew.ownsRow W0.heap.size 5 1 v (48*i) (bl QF (48*i)):=own_below ho' (Below.refl _ _).drew
   have HDR:=hid hdr
   have HOD:=hid hod
   have hap:=HAP1.out
   clear HAP1
   have HAP1:=hid (fun (W:World) h ho ty=>hap W v h ho ty)
   clear hap hdr hod ho ho' hw HK HQ1 hk
   go_upto_region 6 with fail
   refine wp_region_noPanic ?_
   refine wp_region_held_drew (S:=fun _=>True) (by kernel_rfl) (trivial) (fun hHeld=>?_)
   refine tk 0 (v:=?v901) ?y901 hHeld ?r901
   case y901=>intro w hSw;go_simp;try with_reducible rfl
   refine tk 1 (v:=?v902) ?y902 hHeld ?r902
   case y902=>intro w hSw;go_simp;try with_reducible rfl
   refine tk 3 (v:=?v903) ?y903 hHeld ?r903
   case y903=>intro w hSw;go_simp;try with_reducible rfl
   try simp only [Act.put,z_1,z_2,z_3,z_4,z_5,z_6,z_7]
   refine wpAnyH_ready (rs:=[2]) (by kernel_rfl) (by simp) ?_
   refine AllReadyH.cons rfl (fun K hK=>?_) AllReadyH.nil
   obtain ⟨g1,C1,x1,hp1,ho1,hc1⟩:=HAP1.out _ HDR.out HOD.out 39
   refine aAo _ _ rfl _ _ _ _ rfl rfl hp1 ?_
   refine hK.out _ _ (trivial) (fun hHeld=>?_)
   clear hK K
   try simp only [Act.put,z_1,z_2,z_3,z_4,z_5,z_6,z_7]
   refine wpAnyH_ready (rs:=[4]) (by kernel_rfl) (by simp) ?_
   refine AllReadyH.cons rfl (fun K hK=>?_) AllReadyH.nil
   obtain ⟨g2,C2,x2,hp2,ho2,hc2⟩:=HAP2.out x1 g1 C1 hc1 ho1 39
   refine aAo _ _ rfl _ _ _ _ rfl rfl hp2 ?_
   refine hK.out _ _ (trivial) (fun hHeld=>?_)
   clear hK K
   try simp only [Act.put,z_1,z_2,z_3,z_4,z_5,z_6,z_7]
   refine wpAnyH_ready (rs:=[5]) (by kernel_rfl) (by simp) ?_
   refine AllReadyH.cons rfl (fun K hK=>?_) AllReadyH.nil
   go_simp
   refine (HSU.out x2 g2 C2 hc2 ho2).mono ?_
   rintro e' x3 ⟨rfl,hd3⟩
   dsimp only
   have hc3:Below W0.heap.size W0 x3:=hc2.trans (hd3.mono hc2.size)
   refine hK.out _ _ (trivial) (fun hHeld=>?_)
   clear hK K
   try simp only [Act.put,z_1,z_2,z_3,z_4,z_5,z_6,z_7]
   refine wpAnyH_ready (rs:=[6]) (by kernel_rfl) (by simp) ?_
   refine AllReadyH.cons rfl (fun K hK=>?_) AllReadyH.nil
   have r4:=(hc3.block _ z2).trans HR2.out
   have v3:=aAv r4 X
   go_simp
   refine hK.out _ _ (trivial) (fun hHeld=>?_)
   clear hK K
   try simp only [Act.put,z_1,z_2,z_3,z_4,z_5,z_6,z_7]
   refine wpAnyH_done (by kernel_rfl) ?_ _
   refine NoPanic.normal ?_
   go_wp2
   exact aC4 6 (w.heap.size+2) X 24 rfl rfl rfl (aA4 r4) ⟨rfl,aA6 (HB.out.trans (hc3.mono HB.out.size)) (by omega) _⟩
def aVz (x i:Value):Sem Value:=Instr.index 24 x i
theorem aPp (x i:Value):Instr.index 24 x i=aVz x i:=rfl
attribute [local go_sem ↓] aPp
def aVm:Prop:=∀ (x:aA1) (k e:Int) (w:World),aAD x→-9223372036854775808≤k→k≤9223372036854775807→0≤e→e < 18446744073709551616→Sh w→Calls Tryz.prog 41 #[.agg (cel (aA0 x)),.int .i64 k,.int .u64 e] w fun e' w'=>e'=.returned (.agg (vs .u8 32 (aEK x k e)))∧Below w.heap.size w w'
def aVp:Prop:=∀ (a b:Nat→Int) (w:World),(∀ j,j < 32→0≤a j∧a j < 256)→(∀ j,j < 32→0≤b j∧b j < 256)→Sh w→Calls Tryz.prog 42 #[.agg (vs .u8 32 a),.agg (vs .u8 32 b)] w fun e' w'=>e'=.returned (.agg (vs .u8 32 (tw a b)))∧Below w.heap.size w w'
def aVo:Prop:=∀ (a:Option Addr) (n cap:Nat) (f r s:Nat→Int) (w:World),Kys w a n cap f→(∀ j,j < 48*n→0≤f j∧f j < 256)→(∀ j,j < 32→0≤r j∧r j < 256)→(∀ j,j < 96→0≤s j∧s j < 256)→48*n≤140737488351232→Sh w→Calls Tryz.prog 44 #[.slice a n cap,.agg (vs .u8 32 r),.agg (vs .u8 96 s)] w fun e' w'=>e'=.returned (.agg (vs .u8 32 (qsV f n r s)))∧Below w.heap.size w w'
def aVn:Prop:=∀ (q f:Nat→Int) (a:Option Addr) (n cap:Nat) (w:World),Rts w a n cap f→n≤9223372036854775807→Calls Tryz.prog 18 #[.agg (vs .u8 32 q),.slice a n cap] w fun e' w'=>e'=.returned (.bool (gdB q f n))∧Below w.heap.size w w'
end
end Go.Proofs.YtdjplhibmomajaaGreatDoor
