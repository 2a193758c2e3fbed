/- A part. -/
import Derived.Test.YtdamhdnljnifcaaGreatDoorSgB
import Derived.Test.YtdamhdnljnifcaaGreatDoorQI
import Derived.Test.YtdamhdnljnifcaaGreatDoorCoA
import Derived.Test.YtdamhdnljnifcaaGreatDoorQO
import Derived.Test.YtdamhdnljnifcaaGreatDoorQG
import Derived.Test.YtdamhdnljnifcaaGreatDoorQH
import Derived.Test.YtdamhdnljnifcaaGreatDoorStP
namespace Go.Proofs.YtdamhdnljnifcaaGreatDoor
open Go.RowKit
set_option linter.unusedVariables false
set_option linter.unusedSimpArgs false
section
open Go.RowKit
set_option linter.unusedVariables false
set_option linter.unusedSimpArgs false
set_option maxRecDepth 20000
theorem bsR3 (W:World) (a b c:Nat→Int):(bs22 3 #[(0,.agg (vs .u8 32 a)),(1,.agg (vs .u8 32 b)),(2,.agg (vs .u8 32 c))]).run Tryz.prog W=.ok (.slice (some ⟨W.heap.size,0,none⟩) 3 3) (W.alloc (.cells (vs .u8 96 (fl7 [a,b,c])) 24)):=by kernel_rfl
attribute [local go_sem ↓] sv24_eq lv24_eq sv8_eq ix22_eq bs22_eq
set_option maxHeartbeats 2000000 in
theorem rGood_any (q f : Nat → Int) (a : Option Addr) (n cap : Nat) (w : World) (hr : Rts w a n cap f) (hn : n ≤ 9223372036854775807) :
    Calls Tryz.prog 29 #[.agg (vs .u8 32 q),.slice a n cap] w fun e' w'=>e'=.returned (.bool (gdB q f n))∧Below w.heap.size w w':=by
 obtain ⟨W0,hW0⟩:∃ W,w.alloc (.cells (vs .u8 32 q) 24)=W:=⟨_,rfl⟩
 have r0:W0.heap[w.heap.size]?=some (.cells (vs .u8 32 q) 24):=by rw [←hW0];exact heap_new rfl
 have hB0:Below w.heap.size w W0:=by rw [←hW0];exact (Below.refl _ _).alloc (Nat.le_refl _) _
 have z0:w.heap.size < W0.heap.size:=some_ltK r0
 have hr0:=hr.below hB0
 have hlq:∀ W:World,Below W0.heap.size W0 W→(lv24 ⟨w.heap.size,0,none⟩).run Tryz.prog W=.ok (.agg (vs .u8 32 q)) W:=fun W h=>lv24_run ((h.block _ z0).trans r0)
 have HB:=hid hB0
 have HW:=hid hW0
 have HRR:=hid hr0
 have HLQ:=hid hlq
 clear hB0 hW0 r0 hr hr0 hlq
 go_enter Tryz.func29,Tryz.ntmps29
 go_upto_region 1 with fail
 rw [HW.out]
 clear HW
 go_wp2
 go_loopw [5] (fun i wr=>∃ k:Nat,k≤n∧i=.int .i64 k∧gdB q f k=true∧Below W0.heap.size W0 wr) (fun i _=>n - (intOf i).toNat)
 case atStart=>exact ⟨0,by omega,rfl,gdB_zero q f,Below.refl _ _⟩
 case round =>
  obtain ⟨k,hk,rfl,hg,hb⟩:=hrel
  by_cases hlt:k < n
  ·have k1:(k:Int) < (n:Int):=by omega
   have k2:IntKind.i64.wrap ((k:Int)+1)=(k:Int)+1:=by rw [IntKind.wrap_i64];omega
   obtain ⟨b1,o1,hb1,hx1,hc1⟩:=HRR.out.at k hlt
   have hla:∀ W,Below W0.heap.size W0 W→(lv24 ⟨b1,o1,none⟩).run Tryz.prog W=.ok (.agg (vs .u8 32 (rt32 f k))) W:=fun W h=>lv24_mid (fun j hj=>(below_cell h hb1).trans (hc1 j hj))
   have hst:=gdB_succ q f k
   have hgt:=@gdB_true q f n
   obtain ⟨R,eR⟩:∃ R,rt32 f k=R:=⟨_,rfl⟩
   rw [eR] at hla hst
   have HIX:=hid hx1
   have HLA:=hid hla
   have HST:=hid hst
   have HGT:=hid hgt
   have HG:=hid hg
   have HER:=hid eR
   have HDR:=hid hb.drew
   clear hx1 hla hst hgt hg hb hc1 hb1 eR
   cases he:eqR R q
   ·have HEQ:=hid he
    go_upto_region 4 with fail
    refine wp_region_noPanic ?_
    refine wp_region_held_drew (S:=fun W=>Below W0.heap.size W0 W) (by kernel_rfl) (HDR.out) (fun hHeld=>?_)
    refine tk 0 (v:=?v305) ?y305 hHeld ?r305
    case y305=>intro w hSw;go_simp;try with_reducible rfl
    refine tk 1 (v:=?v306) ?y306 hHeld ?r306
    case y306=>intro w hSw;go_simp;try with_reducible rfl
    refine tk 2 (v:=?v307) ?y307 hHeld ?r307
    case y307=>intro w hSw;have ld0:=HIX.out w;go_simp;try with_reducible rfl
    refine tk 3 (v:=?v308) ?y308 hHeld ?r308
    case y308=>intro w hSw;have ld0:=HLA.out w hSw;go_simp;try with_reducible rfl
    refine tk 4 (v:=?v309) ?y309 hHeld ?r309
    case y309=>intro w hSw;have ld0:=HLQ.out w hSw;go_simp;try with_reducible rfl
    try simp only [Act.put,z_1,z_2,z_3,z_4,z_5,z_6,z_7]
    refine wpAnyH_take (i:=5) rfl (by kernel_rfl) (by kernel_rfl) (by kernel_rfl) (fun _ _ _ h=>h) (yields_eqo (by rfl) _ _ _ rfl R q rfl rfl) hHeld ?_
    rw [HEQ.out]
    try simp only [Act.put,z_1,z_2,z_3,z_4,z_5,z_6,z_7]
    refine wpAnyH_done (by kernel_rfl) ?_ _
    refine NoPanic.normal ?_
    go_wp2
    go_roundw
    case rel=>exact ⟨k+1,by omega,by go_num,by rw [HST.out,HG.out,HEQ.out];rfl,HDR.out⟩
    case measure=>simp [intOf];omega
   ·have HEQ:=hid he
    have hF:gdB q f n=false:=by
     cases h:gdB q f n
     ·rfl
     ·have h2:=HGT.out.1 h k hlt
      rw [HER.out,HEQ.out] at h2
      cases h2
    have HF:=hid hF
    clear hF
    go_upto_region 4 with fail
    refine wp_region_noPanic ?_
    refine wp_region_held_drew (S:=fun W=>Below W0.heap.size W0 W) (by kernel_rfl) (HDR.out) (fun hHeld=>?_)
    refine tk 0 (v:=?v310) ?y310 hHeld ?r310
    case y310=>intro w hSw;go_simp;try with_reducible rfl
    refine tk 1 (v:=?v311) ?y311 hHeld ?r311
    case y311=>intro w hSw;go_simp;try with_reducible rfl
    refine tk 2 (v:=?v312) ?y312 hHeld ?r312
    case y312=>intro w hSw;have ld0:=HIX.out w;go_simp;try with_reducible rfl
    refine tk 3 (v:=?v313) ?y313 hHeld ?r313
    case y313=>intro w hSw;have ld0:=HLA.out w hSw;go_simp;try with_reducible rfl
    refine tk 4 (v:=?v314) ?y314 hHeld ?r314
    case y314=>intro w hSw;have ld0:=HLQ.out w hSw;go_simp;try with_reducible rfl
    try simp only [Act.put,z_1,z_2,z_3,z_4,z_5,z_6,z_7]
    refine wpAnyH_take (i:=5) rfl (by kernel_rfl) (by kernel_rfl) (by kernel_rfl) (fun _ _ _ h=>h) (yields_eqo (by rfl) _ _ _ rfl R q rfl rfl) hHeld ?_
    rw [HEQ.out]
    try simp only [Act.put,z_1,z_2,z_3,z_4,z_5,z_6,z_7]
    refine wpAnyH_done (by kernel_rfl) ?_ _
    refine NoPanic.normal ?_
    go_wp2
    go_ret
    exact ⟨by rw [HF.out];rfl,HB.out.trans (HDR.out.mono HB.out.size)⟩
  ·obtain rfl:k=n:=by omega
   have HBB:=hid hb
   have HG:=hid hg
   clear hg hb
   go_wp2
   go_ret
   exact ⟨by rw [HG.out];rfl,HB.out.trans (HBB.out.mono HB.out.size)⟩
theorem cD2 {w:World} {g:Nat} {d:VDepositData} {t:TypeId} (h:w.heap[g]?=some (.cells (cel (sDepositData d)) t)):w.cell? ⟨g,80,none⟩=some (.int .u64 d.f2):=seg_nu h 2 d.f2 (by kernel_rfl) 80 (by kernel_rfl)
theorem cD0 {w:World} {g:Nat} {d:VDepositData} {t:TypeId} (h:w.heap[g]?=some (.cells (cel (sDepositData d)) t)) (p:Nat) (hp:p < 48):w.cell? ⟨g,p,none⟩=some (.int .u8 (d.f0 p)):=by
 have:=byte_at [] [.by 32 d.f1,.nu d.f2,.by 96 d.f3] 48 d.f0 (t:=t) h p hp
 rw [show slen []+p=p from Nat.zero_add p] at this
 exact this
theorem cD1 {w:World} {g:Nat} {d:VDepositData} {t:TypeId} (h:w.heap[g]?=some (.cells (cel (sDepositData d)) t)) (p:Nat) (hp:p < 32):w.cell? ⟨g,48+p,none⟩=some (.int .u8 (d.f1 p)):=byte_at [.by 48 d.f0] [.nu d.f2,.by 96 d.f3] 32 d.f1 (t:=t) h p hp
theorem tvV_bd {f:Nat→Int} {len:Nat} {n:Int} (hf:ByB f (32*len)) (j:Nat) (hj:j < 32):0≤treeV f len n j∧treeV f len n j < 256:=by
 unfold treeV
 split
 ·exact nd_bd hf _ _ j hj
 ·exact ⟨Int.le_refl _,by show (0:Int) < 256;decide⟩
end
section
open Go.RowKit
set_option linter.unusedVariables false
set_option linter.unusedSimpArgs false
set_option maxRecDepth 20000
theorem ap_rowL (W : World) (B : Nat) (v : Value) (n k cp b : Nat) (m c : Nat → Int) (ho : W.ownsRow B 5 1 v n (bl m n)) (hb : ∀ j, j < k → W.cell? ⟨b, j, none⟩ = some (.int .u8 (c j))) (hm : ∀ j, j < k → m (n + j) = c j) (hB : B ≤ W.heap.size) (hn : n + k ≤ 140737488353280) (hk0 : 0 < k) (ty : TypeId) :
    ∃ g' C' w',(ap22 ty v (.slice (some ⟨b,0,none⟩) k cp)).run Tryz.prog W=.ok (.slice (some ⟨g',0,none⟩) (n+k) C') w'∧w'.ownsRow B 5 1 (.slice (some ⟨g',0,none⟩) (n+k) C') (n+k) (bl m (n+k))∧Below B W w':=by
 obtain ⟨i,hi,hz0,hz1,hz2⟩:=info_parts info8
 obtain ⟨v',w',hr,ho',hg,_⟩:=run_append_own_at (P:=Tryz.prog) W B 39 ty 5 i (.int .u8 0) 1 1 Tryz.underlying39 hi hz0 hz1 hz2 rfl (by decide) v n (bl m n) ho ⟨b,0,none⟩ k cp (bl c k) (by rw [bl_len,Nat.mul_one])
  (fun j u hj=>by
   obtain ⟨h1,rfl⟩:=bl_get c k j u hj
   rw [addr_add,Nat.zero_add]
   exact hb j h1) (bl_one c k) (by unfold maxLen;omega) (by omega) hB
 rw [bl_add' m c n k hm] at ho'
 obtain ⟨g',C',rfl⟩:=owns_pos ho' (by omega)
 exact ⟨g',C',w',hr,ho',below_grown (Below.refl _ _) ho hB hg⟩
theorem qs_one (f r s:Nat→Int) (n j:Nat) (h:j < 48*n):qsF f n r s j=f j:=by unfold qsF;rw [if_pos h]
theorem qs_two (f r s:Nat→Int) (n j:Nat) (h:j < 32):qsF f n r s (48*n+j)=r j:=by unfold qsF;rw [if_neg (by omega),if_pos (by omega),show 48*n+j - 48*n=j by omega]
theorem qs_three (f r s:Nat→Int) (n j:Nat):qsF f n r s (48*n+32+j)=s j:=by unfold qsF;rw [if_neg (by omega),if_neg (by omega),show 48*n+32+j - (48*n+32)=j by omega]
attribute [local go_sem ↓] ixKy_eq lvKy_eq svKy_eq sv24_eq lv24_eq bdRo_eq bs22_eq
set_option maxHeartbeats 4000000 in
theorem rQuestion_any (a : Option Addr) (n cap : Nat) (f r s : Nat → Int) (w : World) (hk : Kys w a n cap f) (hf : ∀ j, j < 48 * n → 0 ≤ f j ∧ f j < 256) (hr : ∀ j, j < 32 → 0 ≤ r j ∧ r j < 256) (hs : ∀ j, j < 96 → 0 ≤ s j ∧ s j < 256) (hn : 48 * n ≤ 140737488351232) (hC : Tab w 1 64 KW) :
    Calls Tryz.prog 25 #[.slice a n cap,.agg (vs .u8 32 r),.agg (vs .u8 96 s)] w fun e' w'=>e'=.returned (.agg (vs .u8 32 (qsV f n r s)))∧Below w.heap.size w w':=by
 obtain ⟨W0,hW0⟩:∃ W,((w.alloc (.cells (vs .u8 32 r) 24)).alloc (.cells (vs .u8 96 s) 56)).alloc (.cells (vs .u8 32 fun _=>0) 24)=W:=⟨_,rfl⟩
 have r0:W0.heap[w.heap.size]?=some (.cells (vs .u8 32 r) 24):=by rw [←hW0];exact (heap_old (by simp<;>omega)).trans ((heap_old (by simp)).trans (heap_new rfl))
 have r1:W0.heap[w.heap.size+1]?=some (.cells (vs .u8 96 s) 56):=by rw [←hW0];exact (heap_old (by simp)).trans (heap_new (by simp))
 have r2:W0.heap[w.heap.size+2]?=some (.cells (vs .u8 32 fun _=>0) 24):=by rw [←hW0];exact heap_new (by simp)
 have hB0:Below w.heap.size w W0:=by rw [←hW0];exact (((Below.refl _ _).alloc (Nat.le_refl _) _).alloc (by simp) _).alloc (by simp<;>omega) _
 have z2:w.heap.size+2 < W0.heap.size:=some_ltK r2
 have hk0:=hk.below hB0
 have hC0:=hC.below hB0
 have zr:=zero_root
 have hap1:∀ (W:World) v,Below W0.heap.size W0 W→W.ownsRow W0.heap.size 5 1 v (48*n) (bl (qsF f n r s) (48*n))→∀ ty:TypeId,∃g C w',(ap22 ty v (.slice (some ⟨w.heap.size,0,none⟩) 32 32)).run Tryz.prog W=.ok (.slice (some ⟨g,0,none⟩) (48*n+32) C) w'∧w'.ownsRow W0.heap.size 5 1 (.slice (some ⟨g,0,none⟩) (48*n+32) C) (48*n+32) (bl (qsF f n r s) (48*n+32))∧Below W0.heap.size W0 w':=fun W v h ho ty=>by
  obtain ⟨g,C,w',h1,h2,h3⟩:=ap_rowL W W0.heap.size v (48*n) 32 32 w.heap.size (qsF f n r s) r ho (fun j hj=>row_int ((h.block _ (by omega)).trans r0) j hj) (fun j hj=>qs_two f r s n j hj) h.size (by omega) (by omega) ty
  exact ⟨g,C,w',h1,h2,h.trans h3⟩
 have hap2:∀ (W:World) g C,Below W0.heap.size W0 W→W.ownsRow W0.heap.size 5 1 (.slice (some ⟨g,0,none⟩) (48*n+32) C) (48*n+32) (bl (qsF f n r s) (48*n+32))→∀ ty:TypeId,∃g' C' w',(ap22 ty (.slice (some ⟨g,0,none⟩) (48*n+32) C) (.slice (some ⟨w.heap.size+1,0,none⟩) 96 96)).run Tryz.prog W=.ok (.slice (some ⟨g',0,none⟩) (48*n+128) C') w'∧w'.ownsRow W0.heap.size 5 1 (.slice (some ⟨g',0,none⟩) (48*n+128) C') (48*n+128) (bl (qsF f n r s) (48*n+128))∧Below W0.heap.size W0 w':=fun W g C h ho ty=>by
  obtain ⟨g',C',w',h1,h2,h3⟩:=ap_rowL W W0.heap.size _ (48*n+32) 96 96 (w.heap.size+1) (qsF f n r s) s ho (fun j hj=>row_int ((h.block _ (by omega)).trans r1) j hj) (fun j hj=>qs_three f r s n j) h.size (by omega) (by omega) ty
  exact ⟨g',C',w',h1,h2,h.trans h3⟩
 have hsu:∀ (W:World) g C,Below W0.heap.size W0 W→W.ownsRow W0.heap.size 5 1 (.slice (some ⟨g,0,none⟩) (48*n+128) C) (48*n+128) (bl (qsF f n r s) (48*n+128))→Calls Tryz.prog 67 #[.slice (some ⟨g,0,none⟩) (48*n+128) C] W fun e w'=>e=.returned (.agg (vs .u8 32 (qsV f n r s)))∧Below W.heap.size W w':=fun W g C h ho=>refsum_wide KW (qsF f n r s) (some ⟨g,0,none⟩) (48*n+128) C W (hC0.below h) (own_byF ho) (qsF_bd hf hr hs) (by omega)
 have hq1:=qs_one f r s n
 generalize qsV f n r s=X at hsu ⊢
 generalize qsF f n r s=QF at hap1 hap2 hsu hq1
 have HB:=hid hB0
 have HW:=hid hW0
 have HK:=hid hk0
 have HAP1:=hid hap1
 have HAP2:=hid hap2
 have HSU:=hid hsu
 have HR2:=hid r2
 have HQ1:=hid hq1
 clear hB0 hW0 hk0 hk hap1 hap2 hsu hC hC0 hf hr hs r0 r1 r2 hq1
 go_enter Tryz.func25,Tryz.ntmps25
 go_upto_region 1 with fail
 rw [HW.out]
 clear HW zr
 go_wp2
 go_loopg [7,8] n (fun k v c wr=>∃ (i:Nat) (v':Value),v=v'∧c=.int .i64 i∧i≤n∧n - i≤k∧wr.ownsRow W0.heap.size 5 1 v' (48*i) (bl f (48*i))∧Below W0.heap.size W0 wr)
 case atStart=>exact ⟨0,_,rfl,rfl,by omega,by omega,World.ownsRow_nil _ _ _ _,Below.refl _ _⟩
 case round =>
  obtain ⟨i,v,ev,rfl,hi,hk,ho,hw⟩:=hrel
  obtain rfl:=ev.symm
  clear ev
  by_cases hin:i < n
  ·have h1:(i:Int) < (n:Int):=by omega
   rcases HK.out.below hw with ⟨_,h0,_⟩ | ⟨_,_,h0⟩ | ⟨b,off,ea,hlc,hbl,hc⟩
   ·omega
   ·omega
   subst ea
   have ix:=fun W=>ixKy_run W b off n cap i hin
   have hby:Bys wr (some ⟨b,off+48*i,none⟩) 48 48 (fun j=>f (48*i+j)):=.inr (.inr ⟨b,off+48*i,rfl,by omega,by omega,hbl,fun j hj=>by rw [Nat.add_assoc];exact hc (48*i+j) (by omega)⟩)
   have HO:=hid ho
   have HWW:=hid hw
   have HBY:=hid hby
   clear ho hw hby hc hbl
   obtain ⟨P,eP⟩:∃ P,off+48*i=P:=⟨_,rfl⟩
   rw [eP] at HBY
   simp only [eP] at ix
   go_wp2_with (at_builtin;(refine wpList_append_bys wr rfl _ _ rfl W0.heap.size v (48*i) (bl f (48*i)) rfl HO.out (some ⟨b,P,none⟩) 48 48 _ rfl HBY.out (by omega) HWW.out.size ?_);intro v2 w2 ho2 hg2)
   have hb2:=below_grown HWW.out HO.out HWW.out.size hg2
   rw [bl_add' f _ (48*i) 48 (fun j _=>rfl)] at ho2
   go_roundg (n - (i+1))
   case measure=>omega
   case rel=>exact ⟨i+1,_,rfl,by simp,by omega,Nat.le_refl _,by rw [show 48*(i+1)=48*i+48 by omega];exact ho2,hb2⟩
  ·obtain rfl:i=n:=by omega
   have ho':=ho
   rw [blCongr (m:=f) (m':=QF) (fun j hj=>(HQ1.out j hj).symm)] at ho'
   have hdr:Below W0.heap.size W0 wr.drew:=hw.drew
   have hod:wr.drew.ownsRow W0.heap.size 5 1 v (48*i) (bl QF (48*i)):=own_below ho' (Below.refl _ _).drew
   have HDR:=hid hdr
   have HOD:=hid hod
   have hap:=HAP1.out
   clear HAP1
   have HAP1:=hid (fun (W:World) h ho ty=>hap W v h ho ty)
   clear hap hdr hod ho ho' hw HK HQ1 hk
   go_upto_region 6 with fail
   refine wp_region_noPanic ?_
   refine wp_region_held_drew (S:=fun _=>True) (by kernel_rfl) (trivial) (fun hHeld=>?_)
   refine tk 0 (v:=?v901) ?y901 hHeld ?r901
   case y901=>intro w hSw;go_simp;try with_reducible rfl
   refine tk 1 (v:=?v902) ?y902 hHeld ?r902
   case y902=>intro w hSw;go_simp;try with_reducible rfl
   refine tk 3 (v:=?v903) ?y903 hHeld ?r903
   case y903=>intro w hSw;go_simp;try with_reducible rfl
   try simp only [Act.put,z_1,z_2,z_3,z_4,z_5,z_6,z_7]
   refine wpAnyH_ready (rs:=[2]) (by kernel_rfl) (by simp) ?_
   refine AllReadyH.cons rfl (fun K hK=>?_) AllReadyH.nil
   obtain ⟨g1,C1,x1,hp1,ho1,hc1⟩:=HAP1.out _ HDR.out HOD.out 39
   refine wp_append_is _ _ rfl _ _ _ _ rfl rfl hp1 ?_
   refine hK.out _ _ (trivial) (fun hHeld=>?_)
   clear hK K
   try simp only [Act.put,z_1,z_2,z_3,z_4,z_5,z_6,z_7]
   refine wpAnyH_ready (rs:=[4]) (by kernel_rfl) (by simp) ?_
   refine AllReadyH.cons rfl (fun K hK=>?_) AllReadyH.nil
   obtain ⟨g2,C2,x2,hp2,ho2,hc2⟩:=HAP2.out x1 g1 C1 hc1 ho1 39
   refine wp_append_is _ _ rfl _ _ _ _ rfl rfl hp2 ?_
   refine hK.out _ _ (trivial) (fun hHeld=>?_)
   clear hK K
   try simp only [Act.put,z_1,z_2,z_3,z_4,z_5,z_6,z_7]
   refine wpAnyH_ready (rs:=[5]) (by kernel_rfl) (by simp) ?_
   refine AllReadyH.cons rfl (fun K hK=>?_) AllReadyH.nil
   go_simp
   refine (HSU.out x2 g2 C2 hc2 ho2).mono ?_
   rintro e' x3 ⟨rfl,hd3⟩
   dsimp only
   have hc3:Below W0.heap.size W0 x3:=hc2.trans (hd3.mono hc2.size)
   refine hK.out _ _ (trivial) (fun hHeld=>?_)
   clear hK K
   try simp only [Act.put,z_1,z_2,z_3,z_4,z_5,z_6,z_7]
   refine wpAnyH_ready (rs:=[6]) (by kernel_rfl) (by simp) ?_
   refine AllReadyH.cons rfl (fun K hK=>?_) AllReadyH.nil
   have r4:=(hc3.block _ z2).trans HR2.out
   have v3:=sv24_run r4 X
   go_simp
   refine hK.out _ _ (trivial) (fun hHeld=>?_)
   clear hK K
   try simp only [Act.put,z_1,z_2,z_3,z_4,z_5,z_6,z_7]
   refine wpAnyH_done (by kernel_rfl) ?_ _
   refine NoPanic.normal ?_
   go_wp2
   exact ret24 6 (w.heap.size+2) X 24 rfl rfl rfl (setRow_at r4) ⟨rfl,below_row (HB.out.trans (hc3.mono HB.out.size)) (by omega) _⟩
def ixRo (x i:Value):Sem Value:=Instr.index 24 x i
theorem ixRo_eq (x i:Value):Instr.index 24 x i=ixRo x i:=rfl
attribute [local go_sem ↓] ixRo_eq
def PDom:Prop:=∀ (x:VState) (k e:Int) (w:World),OkState x→-9223372036854775808≤k→k≤9223372036854775807→0≤e→e < 18446744073709551616→Sh w→Calls Tryz.prog 81 #[.agg (cel (sState x)),.int .i64 k,.int .u64 e] w fun e' w'=>e'=.returned (.agg (vs .u8 32 (domV x k e)))∧Below w.heap.size w w'
def PDep:Prop:=∀ w:World,Sh w→Calls Tryz.prog 99 #[] w fun e' w'=>e'=.returned (.agg (vs .u8 32 depV))∧Below w.heap.size w w'
def PRoo:Prop:=∀ (a b:Nat→Int) (w:World),(∀ j,j < 32→0≤a j∧a j < 256)→(∀ j,j < 32→0≤b j∧b j < 256)→Sh w→Calls Tryz.prog 82 #[.agg (vs .u8 32 a),.agg (vs .u8 32 b)] w fun e' w'=>e'=.returned (.agg (vs .u8 32 (tw a b)))∧Below w.heap.size w w'
def PMsg:Prop:=∀ (d:VDepositData) (w:World),OkDepositData d→Sh w→Calls Tryz.prog 98 #[.agg (cel (sDepositData d))] w fun e' w'=>e'=.returned (.agg (vs .u8 32 (msV d)))∧Below w.heap.size w w'
def PQue:Prop:=∀ (a:Option Addr) (n cap:Nat) (f r s:Nat→Int) (w:World),Kys w a n cap f→(∀ j,j < 48*n→0≤f j∧f j < 256)→(∀ j,j < 32→0≤r j∧r j < 256)→(∀ j,j < 96→0≤s j∧s j < 256)→48*n≤140737488351232→Sh w→Calls Tryz.prog 84 #[.slice a n cap,.agg (vs .u8 32 r),.agg (vs .u8 96 s)] w fun e' w'=>e'=.returned (.agg (vs .u8 32 (qsV f n r s)))∧Below w.heap.size w w'
def PGoo:Prop:=∀ (q f:Nat→Int) (a:Option Addr) (n cap:Nat) (w:World),Rts w a n cap f→n≤9223372036854775807→Calls Tryz.prog 34 #[.agg (vs .u8 32 q),.slice a n cap] w fun e' w'=>e'=.returned (.bool (gdB q f n))∧Below w.heap.size w w'
theorem depV_bd (j:Nat):0≤depV j∧depV j < 256:=dmV_bd ..
end
section
open Go.RowKit
set_option linter.unusedVariables false
set_option linter.unusedSimpArgs false
attribute [local go_sem ↓] sv24_eq lv24_eq ix22_eq slr_eq bd27_eq bs22_eq bsP_eq bsI_eq lvCheckpoint_eq
end
section
open Go.RowKit
set_option linter.unusedVariables false
set_option linter.unusedSimpArgs false
attribute [local go_sem ↓] sv24_eq lv24_eq ix22_eq slr_eq bd27_eq bs22_eq
set_option maxRecDepth 20000 in
set_option maxHeartbeats 2000000 in
theorem rrootDepositData_any (x : VDepositData) (w : World) (hx : OkDepositData x) (hC : Rc w) :
    Calls Tryz.prog 14 #[.agg (cel (sDepositData x))] w fun e w'=>e=.returned (.tuple #[.agg (vs .u8 32 (hDepositData x)),.int .i64 0])∧Below w.heap.size w w':=by
 have z:=zero_root
 have zc:∀ W:World,(zeroValue 103).run Tryz.prog W=.ok (.agg (vs .u8 128 (fl7 [fun _=>0,fun _=>0,fun _=>0,fun _=>0]))) W:=(zero_of_info (n:=128) (by kernel_rfl)).1
 obtain ⟨y,ey⟩:∃ y,w.heap.size=y:=⟨_,rfl⟩
 obtain ⟨W1,hW1⟩:∃ W,w.alloc (.cells (cel (sDepositData x)) 58)=W:=⟨_,rfl⟩
 obtain ⟨W2,hW2⟩:∃ W,W1.alloc (.cells (vs .u8 32 fun _=>0) 24)=W:=⟨_,rfl⟩
 obtain ⟨V0,hV0⟩:∃ W,W2.alloc (.cells (vs .u8 128 (fl7 [fun _=>0,fun _=>0,fun _=>0,fun _=>0])) 103)=W:=⟨_,rfl⟩
 have z1:W1.heap.size=y+1:=by rw [←hW1,←ey];simp
 have z2:W2.heap.size=y+2:=by rw [←hW2];simp [z1]
 have z3:V0.heap.size=y+3:=by rw [←hV0];simp [z2]
 have hB0:Below w.heap.size w V0:=by rw [←hV0,←hW2,←hW1];exact (((Below.refl _ _).alloc (Nat.le_refl _) _).alloc (by simp) _).alloc (by simp;omega) _
 have r1:V0.heap[y]?=some (.cells (cel (sDepositData x)) 58):=by rw [←hV0];refine (heap_old (by omega)).trans ?_;rw [←hW2];refine (heap_old (by omega)).trans ?_;rw [←hW1];exact heap_new ey.symm
 have r2:V0.heap[y+1]?=some (.cells (vs .u8 32 fun _=>0) 24):=by rw [←hV0];refine (heap_old (by omega)).trans ?_;rw [←hW2];exact heap_new z1.symm
 have r3:V0.heap[y+2]?=some (.cells (vs .u8 (32*4) (fl7 [fun _=>0,fun _=>0,fun _=>0,fun _=>0])) 103):=by rw [←hV0];exact heap_new z2.symm
 have hry:∀ X,Below (y+2) V0 X→X.heap[y]?=some (.cells (cel (sDepositData x)) 58):=fun X h=>(h.block _ (by omega)).trans r1
 have hrr:∀ X,Below (y+2) V0 X→X.heap[y+1]?=some (.cells (vs .u8 32 fun _=>0) 24):=fun X h=>(h.block _ (by omega)).trans r2
 have hRc:∀ X,Below (y+2) V0 X→Rc X:=fun X h=>hC.below (hB0.trans (h.mono (by omega)))
 have hk0:∀ X,Below (y+2) V0 X→Calls Tryz.prog 42 #[.slice (some ⟨y,0,none⟩) 48 48] X fun e w'=>∃ a' cap',e=.returned (.slice a' 2 cap')∧Below X.heap.size X w'∧Rts w' a' 2 cap' (pk x.f0 48):=fun X h=>rpack_any _ 48 48 x.f0 X (seg_bys (hry X h) 0 48 x.f0 rfl 0 rfl (by omega)) (by omega)
 have hc0:∀ X a c,Below (y+2) V0 X→Rts X a 2 c (pk x.f0 48)→Calls Tryz.prog 41 #[.slice a 2 c,.int .i64 2] X fun e w'=>e=.returned (.agg (vs .u8 32 (bR x.f0 48)))∧Below X.heap.size X w':=fun X a c h hr=>must7 a 2 c (pk x.f0 48) 2 X (hRc X h) hr (rts_cap hr (by omega)) (pk_bd hx.1 _) (by decide) (by decide) (by decide)
 have hd0:∀ j,j < 32→0≤(bR x.f0 48) j∧(bR x.f0 48) j < 256:=fun j hj=>treeV_bd (pk_bd hx.1 _) _ j hj
 have HL1:Hid (∀ X,Below (y+2) V0 X→(lv24 ⟨y,48,none⟩).run Tryz.prog X=.ok (.agg (vs .u8 32 x.f1)) X):=fun X h=>lv24_mid (fun j hj=>by
  rw [row_cell (hry X h)]
  exact cel_at (sDepositData x) 1 j (Seg.by 32 x.f1) rfl hj)
 have hd1:∀ j,j < 32→0≤x.f1 j∧x.f1 j < 256:=hx.2.1
 have hc2:∀ X a c,Below (y+2) V0 X→Bys X a 8 c (nmB x.f2)→Calls Tryz.prog 43 #[.slice a 8 c] X fun e w'=>e=.returned (.agg (vs .u8 32 (bR (nmB x.f2) 8)))∧Below X.heap.size X w':=fun X a c h hb=>chunk7 a 8 c (nmB x.f2) X (hRc X h) hb (by omega) (by omega) (fun j _=>nmB_bd _ j)
 have HL2:Hid (∀ X,Below (y+2) V0 X→X.cell? ⟨y,80,none⟩=some (.int .u64 x.f2)):=fun X h=>seg_nu (hry X h) 2 x.f2 rfl 80 rfl
 have hd2:∀ j,j < 32→0≤(bR (nmB x.f2) 8) j∧(bR (nmB x.f2) 8) j < 256:=fun j hj=>treeV_bd (pk_bd (fun j _=>nmB_bd _ j) _) _ j hj
 have hk3:∀ X,Below (y+2) V0 X→Calls Tryz.prog 42 #[.slice (some ⟨y,81,none⟩) 96 96] X fun e w'=>∃ a' cap',e=.returned (.slice a' 3 cap')∧Below X.heap.size X w'∧Rts w' a' 3 cap' (pk x.f3 96):=fun X h=>rpack_any _ 96 96 x.f3 X (seg_bys (hry X h) 3 96 x.f3 rfl 81 rfl (by omega)) (by omega)
 have hc3:∀ X a c,Below (y+2) V0 X→Rts X a 3 c (pk x.f3 96)→Calls Tryz.prog 41 #[.slice a 3 c,.int .i64 3] X fun e w'=>e=.returned (.agg (vs .u8 32 (bR x.f3 96)))∧Below X.heap.size X w':=fun X a c h hr=>must7 a 3 c (pk x.f3 96) 3 X (hRc X h) hr (rts_cap hr (by omega)) (pk_bd hx.2.2.2 _) (by decide) (by decide) (by decide)
 have hd3:∀ j,j < 32→0≤(bR x.f3 96) j∧(bR x.f3 96) j < 256:=fun j hj=>treeV_bd (pk_bd hx.2.2.2 _) _ j hj
 have eh:∀ j,j < 32→treeV (fl7 [bR x.f0 48,x.f1,bR (nmB x.f2) 8,bR x.f3 96]) 4 (4:Nat) j=hDepositData x j:=fun j hj=>treeV_congr (fun q hq=>by
  unfold fl7
  have hq5:=Nat.mod_lt q (show 0 < 32 by omega)
  rcases (by omega:q / 32=0∨q / 32=1∨q / 32=2∨q / 32=3) with e | e | e | e
  ·first | (rw [e];done) | (rw [e];rfl)
  ·rw [e];exact (bR_32 x.f1 _ hq5).symm
  ·first | (rw [e];done) | (rw [e];rfl)
  ·first | (rw [e];done) | (rw [e];rfl)
  ) _ j hj
 obtain ⟨C0,eC0⟩:∃ C,bR x.f0 48=C:=⟨_,rfl⟩
 rw [eC0] at hd0 hc0
 simp only [eC0] at eh
 have HC0:=hid hc0
 have HK0:=hid hk0
 obtain ⟨C1,eC1⟩:∃ C,x.f1=C:=⟨_,rfl⟩
 rw [eC1] at hd1 HL1
 simp only [eC1] at eh
 obtain ⟨C2,eC2⟩:∃ C,bR (nmB x.f2) 8=C:=⟨_,rfl⟩
 rw [eC2] at hd2 hc2
 simp only [eC2] at eh
 have HC2:=hid hc2
 obtain ⟨C3,eC3⟩:∃ C,bR x.f3 96=C:=⟨_,rfl⟩
 rw [eC3] at hd3 hc3
 simp only [eC3] at eh
 have HC3:=hid hc3
 have HK3:=hid hk3
 have hmu:∀ X,Below (y+2) V0 X→X.heap[y+2]?=some (.cells (vs .u8 (32*4) (fl7 [C0,C1,C2,C3])) 103)→Calls Tryz.prog 41 #[.slice (some ⟨y+2,0,none⟩) 4 4,.int .i64 4] X fun e w'=>e=.returned (.agg (vs .u8 32 (hDepositData x)))∧Below X.heap.size X w':=fun X h h2=>by
  have:=must7 (some ⟨y+2,0,none⟩) 4 4 (fl7 [C0,C1,C2,C3]) (4:Nat) X (hRc X h) (rts_row h2) (by omega) (fl7_bd (fun c hc=>by
   simp only [List.mem_cons,List.not_mem_nil,or_false] at hc
   rcases hc with rfl | rfl | rfl | rfl
   ·exact hd0
   ·exact hd1
   ·exact hd2
   ·exact hd3
   ) _) (by decide) (by decide) (by decide)
  rw [vs_congr (fun j hj=>eh j hj)] at this
  exact this
 obtain ⟨D,eD⟩:∃ D,hDepositData x=D:=⟨_,rfl⟩
 rw [eD] at hmu ⊢
 obtain ⟨u,eu⟩:∃ u,y+2=u:=⟨_,rfl⟩
 rw [eu] at hmu
 have HU:=hid eu
 have HMU:=hid hmu
 have HRR:=hid hrr
 have HB0w:=hid hB0
 have EY:=hid ey
 have Z3:=hid z3
 have HX:=hid hx
 have RV0:=hid r3
 have SV0:=hid (Below.refl (y+2) V0)
 rw [eu] at RV0
 clear hmu hrr hB0 z3 r1 r2 r3 hry hRc hx hC eh eD hd0 eC0 hc0 hk0 hd1 eC1 hd2 eC2 hc2 hd3 eC3 hc3 hk3
 go_enter Tryz.func14,Tryz.ntmps14
 go_upto_region 3 with fail
 clear hW1 hW2 hV0 z1 z2 ey z zc
 try rw [eu]
 clear eu
 go_upto_region 4 with (first
  | (go_at_call 42; refine (HK0.out _ SV0.out).mono ?_; rintro e Y ⟨a, c, rfl, hb, hr⟩; have SY := hid (SV0.out.trans (hb.mono (by have h1 := HU.out; have h2 := Z3.out; have h3 := SV0.out.size; omega))); have RY := hid ((hb.block _ (Array.getElem?_eq_some_iff.1 RV0.out).1).trans RV0.out); have CY := hid (HC0.out _ _ _ SY.out hr); clear hr hb)
  | (go_at_call 41; refine CY.out.mono ?_; rintro e X0 ⟨rfl, hb⟩; have sb := SY.out.trans (hb.mono (by have h1 := HU.out; have h2 := Z3.out; have h3 := SY.out.size; omega)); have rb := (hb.block _ (Array.getElem?_eq_some_iff.1 RY.out).1).trans RY.out; obtain ⟨sv, nr, nb⟩ := put7 (l := [fun _ => 0, fun _ => 0, fun _ => 0, fun _ => 0]) (n := 4) sb (by rw [← HU.out]; exact Nat.le_refl _) rb 0 C0 (by omega) rfl; have NR := hid nr; have NB := hid nb; clear nr nb sb rb hb))
 clear CY
 obtain ⟨V1,hV⟩:∃ V,X0.setCells u 0 (bl C0 32)=V:=⟨_,rfl⟩
 have RV1:Hid (V1.heap[u]?=some (.cells (vs .u8 (32*4) (fl7 [C0,fun _=>0,fun _=>0,fun _=>0])) 103)):=by rw [←hV];exact NR.out
 have SV1:Hid (Below (y+2) V0 V1):=by rw [←hV];exact NB.out
 rw [hV]
 clear hV NR NB sv
 have ld:=HL1.out _ SV1.out
 obtain ⟨sv,nr,nb⟩:=put7 (l:=[C0,fun _=>0,fun _=>0,fun _=>0]) (n:=4) SV1.out (by rw [←HU.out];exact Nat.le_refl _) RV1.out 1 C1 (by omega) rfl
 have NR:=hid nr
 have NB:=hid nb
 clear nr nb
 go_upto_region 5 with fail
 clear ld
 obtain ⟨V2,hV⟩:∃ V,V1.setCells u 32 (bl C1 32)=V:=⟨_,rfl⟩
 have RV2:Hid (V2.heap[u]?=some (.cells (vs .u8 (32*4) (fl7 [C0,C1,fun _=>0,fun _=>0])) 103)):=by rw [←hV];exact NR.out
 have SV2:Hid (Below (y+2) V0 V2):=by rw [←hV];exact NB.out
 rw [hV]
 clear hV NR NB sv
 have ld:=HL2.out _ SV2.out
 go_upto_region 6 with (first
  | (go_at_call 44; refine (rnumber7 x.f2 _ HX.out.2.2.1.1 HX.out.2.2.1.2).mono ?_; rintro e Y ⟨v, rfl, ho, hb⟩; obtain ⟨a, c, rfl, hr⟩ := own_at ho; clear ho; have SY := hid (SV2.out.trans (hb.mono (by have h1 := HU.out; have h2 := Z3.out; have h3 := SV2.out.size; omega))); have RY := hid ((hb.block _ (Array.getElem?_eq_some_iff.1 RV2.out).1).trans RV2.out); have CY := hid (HC2.out _ _ _ SY.out hr); clear hr hb)
  | (go_at_call 43; refine CY.out.mono ?_; rintro e X2 ⟨rfl, hb⟩; have sb := SY.out.trans (hb.mono (by have h1 := HU.out; have h2 := Z3.out; have h3 := SY.out.size; omega)); have rb := (hb.block _ (Array.getElem?_eq_some_iff.1 RY.out).1).trans RY.out; obtain ⟨sv, nr, nb⟩ := put7 (l := [C0, C1, fun _ => 0, fun _ => 0]) (n := 4) sb (by rw [← HU.out]; exact Nat.le_refl _) rb 2 C2 (by omega) rfl; have NR := hid nr; have NB := hid nb; clear nr nb sb rb hb))
 clear CY ld
 obtain ⟨V3,hV⟩:∃ V,X2.setCells u 64 (bl C2 32)=V:=⟨_,rfl⟩
 have RV3:Hid (V3.heap[u]?=some (.cells (vs .u8 (32*4) (fl7 [C0,C1,C2,fun _=>0])) 103)):=by rw [←hV];exact NR.out
 have SV3:Hid (Below (y+2) V0 V3):=by rw [←hV];exact NB.out
 rw [hV]
 clear hV NR NB sv
 go_upto_region 7 with (first
  | (go_at_call 42; refine (HK3.out _ SV3.out).mono ?_; rintro e Y ⟨a, c, rfl, hb, hr⟩; have SY := hid (SV3.out.trans (hb.mono (by have h1 := HU.out; have h2 := Z3.out; have h3 := SV3.out.size; omega))); have RY := hid ((hb.block _ (Array.getElem?_eq_some_iff.1 RV3.out).1).trans RV3.out); have CY := hid (HC3.out _ _ _ SY.out hr); clear hr hb)
  | (go_at_call 41; refine CY.out.mono ?_; rintro e X3 ⟨rfl, hb⟩; have sb := SY.out.trans (hb.mono (by have h1 := HU.out; have h2 := Z3.out; have h3 := SY.out.size; omega)); have rb := (hb.block _ (Array.getElem?_eq_some_iff.1 RY.out).1).trans RY.out; obtain ⟨sv, nr, nb⟩ := put7 (l := [C0, C1, C2, fun _ => 0]) (n := 4) sb (by rw [← HU.out]; exact Nat.le_refl _) rb 3 C3 (by omega) rfl; have NR := hid nr; have NB := hid nb; clear nr nb sb rb hb))
 clear CY
 obtain ⟨V4,hV⟩:∃ V,X3.setCells u 96 (bl C3 32)=V:=⟨_,rfl⟩
 have RV4:Hid (V4.heap[u]?=some (.cells (vs .u8 (32*4) (fl7 [C0,C1,C2,C3])) 103)):=by rw [←hV];exact NR.out
 have SV4:Hid (Below (y+2) V0 V4):=by rw [←hV];exact NB.out
 rw [hV]
 clear hV NR NB sv
 have HM:=hid (HMU.out _ (by have:=SV4.out;rw [HU.out] at this;exact this) RV4.out)
 go_wp2_with (go_at_call 41;refine HM.out.mono ?_;rintro e Y ⟨rfl,hb⟩;have sy:=SV4.out.trans (hb.mono (by have h1:=HU.out;have h2:=Z3.out;have h3:=SV4.out.size;omega));have rY:=HRR.out _ sy;have s1:=sv24_run rY D;have RY:=hid rY;have SY:=hid sy;clear rY sy hb)
 refine ret24s _ _ (y+1) _ 24 _ rfl rfl rfl rfl (setRow_at RY.out) ⟨rfl,?_⟩
 have e0:=EY.out
 exact below_row (HB0w.out.trans (SY.out.mono (by omega))) (by omega) _
end
section
open Go.RowKit
set_option linter.unusedVariables false
set_option linter.unusedSimpArgs false
attribute [local go_sem ↓] sv24_eq lv24_eq ix22_eq slr_eq bd27_eq bs22_eq mkI_eq ixI_eq ixP_eq bsP_eq bsI_eq lvFork_eq svFork_eq bdFork_eq lvCheckpoint_eq svCheckpoint_eq bdCheckpoint_eq lvValidator_eq svValidator_eq bdValidator_eq lvEth1_eq svEth1_eq bdEth1_eq lvHeader_eq svHeader_eq bdHeader_eq lvExit_eq svExit_eq bdExit_eq lvDepositData_eq svDepositData_eq bdDepositData_eq lvSignedExit_eq svSignedExit_eq bdSignedExit_eq
end
section
open Go.RowKit
set_option linter.unusedVariables false
set_option linter.unusedSimpArgs false
set_option maxRecDepth 20000
attribute [local go_sem ↓] lvState_eq svState_eq bdState_eq sv24_eq lv24_eq
def lvSg (a:Addr):Sem Value:=loadVar 56 a
theorem lvSg_eq (a:Addr):loadVar 56 a=lvSg a:=rfl
def svSg (a:Addr) (v:Value):Sem Unit:=storeVar 56 a v
theorem svSg_eq (a:Addr) (v:Value):storeVar 56 a v=svSg a v:=rfl
def svDd (a:Addr) (v:Value):Sem Unit:=storeVar 58 a v
theorem svDd_eq (a:Addr) (v:Value):storeVar 58 a v=svDd a v:=rfl
def lvDd (a:Addr):Sem Value:=loadVar 58 a
theorem lvDd_eq (a:Addr):loadVar 58 a=lvDd a:=rfl
theorem lvDd_run {w:World} {b:Nat} {c:VDepositData} {t:TypeId} (h:w.heap[b]?=some (.cells (cel (sDepositData c)) t)):(lvDd ⟨b,0,none⟩).run Tryz.prog w=.ok (.agg (cel (sDepositData c))) w :=
 loadAt_var (load_row h 58 _ Tryz.underlying58 rfl (by rw [cel_size,slDepositData];kernel_rfl))
attribute [local go_sem ↓] lvSg_eq svSg_eq lvDd_eq svDd_eq
end
section
open Go.RowKit
set_option linter.unusedVariables false
set_option linter.unusedSimpArgs false
set_option maxRecDepth 20000
theorem apR_own (W : World) (B : Nat) (v : Value) (n : Nat) (m : Nat → Int) (ho : W.ownsRow B 24 32 v n (bl m (32 * n))) (ao : Option Addr) (len cap : Nat) (f : Nat → Int) (hb : Rts W ao len cap f) (hbd : (n + len) * 32 ≤ 140737488355328) (hB : B ≤ W.heap.size)
    (m':Nat→Int) (hm1:∀ q,q < 32*n→m' q=m q) (hm2:∀ q,q < 32*len→m' (32*n+q)=f q) (ty:TypeId) :
    ∃ v' w',(apR ty v (.slice ao len cap)).run Tryz.prog W=.ok v' w'∧w'.ownsRow B 24 32 v' (n+len) (bl m' (32*(n+len)))∧W.grownBy w' v.ownBlock:=by
 obtain ⟨i,hi,hz0,hz1,hz2⟩:=infoR
 have hzz:(Value.agg (vs .u8 32 fun _=>0)).cells.size=32:=by simp [Value.cells,vs_size]
 have e:bl m (32*n)++bl f (32*len)=bl m' (32*(n+len)):=by
  unfold bl
  rw [Nat.mul_add,List.range_add,List.map_append,List.map_map]
  congr 1
  ·exact List.map_congr_left fun j hj=>by rw [hm1 j (List.mem_range.1 hj)]
  ·refine List.map_congr_left fun j hj=>?_
   show Value.int .u8 (f j)=Value.int .u8 (m' (32*n+j))
   rw [hm2 j (List.mem_range.1 hj)]
 rcases hb with ⟨rfl,rfl,rfl⟩ | ⟨x0,rfl,rfl⟩ | ⟨b,off,rfl,hlc,hbl,hc⟩
 ·have h:=run_append_owned_none (P:=Tryz.prog) (w:=W) B 32 ty 24 i 32 Tryz.underlying32 hi _ n _ ho
  refine ⟨_,_,h,?_,⟨rfl,rfl,rfl,Nat.le_refl _,fun _ _ _=>rfl⟩⟩
  rw [←e]
  simpa [bl] using ho
 ·obtain ⟨v',w',hrun,ho',hg,_⟩:=run_append_own_at (P:=Tryz.prog) W B 32 ty 24 i _ 32 32 Tryz.underlying32 hi hz0 hz1 hz2 hzz (by decide) _ n _ ho x0 0 cap (bl f (32*0)) (by rw [bl_len])
   (fun j u hj=>by
    have:=(bl_get f (32*0) j u hj).1
    omega) (bl_one f _) (by unfold maxLen;omega) (by omega) hB
  exact ⟨v',w',hrun,by rw [←e];exact ho',hg⟩
 ·obtain ⟨v',w',hrun,ho',hg,_⟩:=run_append_own_at (P:=Tryz.prog) W B 32 ty 24 i _ 32 32 Tryz.underlying32 hi hz0 hz1 hz2 hzz (by decide) _ n _ ho ⟨b,off,none⟩ len cap (bl f (32*len)) (by rw [bl_len];omega)
   (fun j u hj=>by
    obtain ⟨h1,rfl⟩:=bl_get f (32*len) j u hj
    rw [addr_add]
    exact hc j h1) (bl_one f _) (by unfold maxLen;omega) (by omega) hB
  exact ⟨v',w',hrun,by rw [←e];exact ho',hg⟩
attribute [local go_sem ↓] ixKy_eq lvKy_eq svKy_eq sv24_eq lv24_eq lvSg_eq bs22_eq
end
end Go.Proofs.YtdamhdnljnifcaaGreatDoor
