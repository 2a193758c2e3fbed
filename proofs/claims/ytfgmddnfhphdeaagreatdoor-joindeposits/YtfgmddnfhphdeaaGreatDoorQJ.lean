/- A part. -/
import Derived.Test.YtfgmddnfhphdeaaGreatDoorSgB
import Derived.Test.YtfgmddnfhphdeaaGreatDoorQH
namespace Go.Proofs.YtfgmddnfhphdeaaGreatDoor
open Go.RowKit
set_option linter.unusedVariables false
set_option linter.unusedSimpArgs false
section
open Go.RowKit
set_option linter.unusedVariables false
set_option linter.unusedSimpArgs false
set_option maxRecDepth 20000
theorem bsR3 (W:World) (a b c:Nat→Int):(bs22 3 #[(0,.agg (vs .u8 32 a)),(1,.agg (vs .u8 32 b)),(2,.agg (vs .u8 32 c))]).run Tryz.prog W=.ok (.slice (some ⟨W.heap.size,0,none⟩) 3 3) (W.alloc (.cells (vs .u8 96 (fl7 [a,b,c])) 24)):=by kernel_rfl
attribute [local go_sem ↓] sv24_eq lv24_eq sv8_eq ix22_eq bs22_eq
set_option maxHeartbeats 2000000 in
theorem rGood_any (q f : Nat → Int) (a : Option Addr) (n cap : Nat) (w : World) (hr : Rts w a n cap f) (hn : n ≤ 9223372036854775807) :
    Calls Tryz.prog 27 #[.agg (vs .u8 32 q),.slice a n cap] w fun e' w'=>e'=.returned (.bool (gdB q f n))∧Below w.heap.size w w':=by
 obtain ⟨W0,hW0⟩:∃ W,w.alloc (.cells (vs .u8 32 q) 24)=W:=⟨_,rfl⟩
 have r0:W0.heap[w.heap.size]?=some (.cells (vs .u8 32 q) 24):=by rw [←hW0];exact heap_new rfl
 have hB0:Below w.heap.size w W0:=by rw [←hW0];exact (Below.refl _ _).alloc (Nat.le_refl _) _
 have z0:w.heap.size < W0.heap.size:=some_ltK r0
 have hr0:=hr.below hB0
 have hlq:∀ W:World,Below W0.heap.size W0 W→(lv24 ⟨w.heap.size,0,none⟩).run Tryz.prog W=.ok (.agg (vs .u8 32 q)) W:=fun W h=>lv24_run ((h.block _ z0).trans r0)
 have HB:=hid hB0
 have HW:=hid hW0
 have HRR:=hid hr0
 have HLQ:=hid hlq
 clear hB0 hW0 r0 hr hr0 hlq
 go_enter Tryz.func27,Tryz.ntmps27
 go_upto_region 1 with fail
 rw [HW.out]
 clear HW
 go_wp2
 go_loopw [5] (fun i wr=>∃ k:Nat,k≤n∧i=.int .i64 k∧gdB q f k=true∧Below W0.heap.size W0 wr) (fun i _=>n - (intOf i).toNat)
 case atStart=>exact ⟨0,by omega,rfl,gdB_zero q f,Below.refl _ _⟩
 case round =>
  obtain ⟨k,hk,rfl,hg,hb⟩:=hrel
  by_cases hlt:k < n
  ·have k1:(k:Int) < (n:Int):=by omega
   have k2:IntKind.i64.wrap ((k:Int)+1)=(k:Int)+1:=by rw [IntKind.wrap_i64];omega
   obtain ⟨b1,o1,hb1,hx1,hc1⟩:=HRR.out.at k hlt
   have hla:∀ W,Below W0.heap.size W0 W→(lv24 ⟨b1,o1,none⟩).run Tryz.prog W=.ok (.agg (vs .u8 32 (rt32 f k))) W:=fun W h=>lv24_mid (fun j hj=>(below_cell h hb1).trans (hc1 j hj))
   have hst:=gdB_succ q f k
   have hgt:=@gdB_true q f n
   obtain ⟨R,eR⟩:∃ R,rt32 f k=R:=⟨_,rfl⟩
   rw [eR] at hla hst
   have HIX:=hid hx1
   have HLA:=hid hla
   have HST:=hid hst
   have HGT:=hid hgt
   have HG:=hid hg
   have HER:=hid eR
   have HDR:=hid hb.drew
   clear hx1 hla hst hgt hg hb hc1 hb1 eR
   cases he:eqR R q
   ·have HEQ:=hid he
    go_upto_region 4 with fail
    refine wp_region_noPanic ?_
    refine wp_region_held_drew (S:=fun W=>Below W0.heap.size W0 W) (by kernel_rfl) (HDR.out) (fun hHeld=>?_)
    refine tk 0 (v:=?v305) ?y305 hHeld ?r305
    case y305=>intro w hSw;go_simp;try with_reducible rfl
    refine tk 1 (v:=?v306) ?y306 hHeld ?r306
    case y306=>intro w hSw;go_simp;try with_reducible rfl
    refine tk 2 (v:=?v307) ?y307 hHeld ?r307
    case y307=>intro w hSw;have ld0:=HIX.out w;go_simp;try with_reducible rfl
    refine tk 3 (v:=?v308) ?y308 hHeld ?r308
    case y308=>intro w hSw;have ld0:=HLA.out w hSw;go_simp;try with_reducible rfl
    refine tk 4 (v:=?v309) ?y309 hHeld ?r309
    case y309=>intro w hSw;have ld0:=HLQ.out w hSw;go_simp;try with_reducible rfl
    try simp only [Act.put,z_1,z_2,z_3,z_4,z_5,z_6,z_7]
    refine wpAnyH_take (i:=5) rfl (by kernel_rfl) (by kernel_rfl) (by kernel_rfl) (fun _ _ _ h=>h) (yields_eqo (by rfl) _ _ _ rfl R q rfl rfl) hHeld ?_
    rw [HEQ.out]
    try simp only [Act.put,z_1,z_2,z_3,z_4,z_5,z_6,z_7]
    refine wpAnyH_done (by kernel_rfl) ?_ _
    refine NoPanic.normal ?_
    go_wp2
    go_roundw
    case rel=>exact ⟨k+1,by omega,by go_num,by rw [HST.out,HG.out,HEQ.out];rfl,HDR.out⟩
    case measure=>simp [intOf];omega
   ·have HEQ:=hid he
    have hF:gdB q f n=false:=by
     cases h:gdB q f n
     ·rfl
     ·have h2:=HGT.out.1 h k hlt
      rw [HER.out,HEQ.out] at h2
      cases h2
    have HF:=hid hF
    clear hF
    go_upto_region 4 with fail
    refine wp_region_noPanic ?_
    refine wp_region_held_drew (S:=fun W=>Below W0.heap.size W0 W) (by kernel_rfl) (HDR.out) (fun hHeld=>?_)
    refine tk 0 (v:=?v310) ?y310 hHeld ?r310
    case y310=>intro w hSw;go_simp;try with_reducible rfl
    refine tk 1 (v:=?v311) ?y311 hHeld ?r311
    case y311=>intro w hSw;go_simp;try with_reducible rfl
    refine tk 2 (v:=?v312) ?y312 hHeld ?r312
    case y312=>intro w hSw;have ld0:=HIX.out w;go_simp;try with_reducible rfl
    refine tk 3 (v:=?v313) ?y313 hHeld ?r313
    case y313=>intro w hSw;have ld0:=HLA.out w hSw;go_simp;try with_reducible rfl
    refine tk 4 (v:=?v314) ?y314 hHeld ?r314
    case y314=>intro w hSw;have ld0:=HLQ.out w hSw;go_simp;try with_reducible rfl
    try simp only [Act.put,z_1,z_2,z_3,z_4,z_5,z_6,z_7]
    refine wpAnyH_take (i:=5) rfl (by kernel_rfl) (by kernel_rfl) (by kernel_rfl) (fun _ _ _ h=>h) (yields_eqo (by rfl) _ _ _ rfl R q rfl rfl) hHeld ?_
    rw [HEQ.out]
    try simp only [Act.put,z_1,z_2,z_3,z_4,z_5,z_6,z_7]
    refine wpAnyH_done (by kernel_rfl) ?_ _
    refine NoPanic.normal ?_
    go_wp2
    go_ret
    exact ⟨by rw [HF.out];rfl,HB.out.trans (HDR.out.mono HB.out.size)⟩
  ·obtain rfl:k=n:=by omega
   have HBB:=hid hb
   have HG:=hid hg
   clear hg hb
   go_wp2
   go_ret
   exact ⟨by rw [HG.out];rfl,HB.out.trans (HBB.out.mono HB.out.size)⟩
theorem cD2 {w:World} {g:Nat} {d:VDepositData} {t:TypeId} (h:w.heap[g]?=some (.cells (cel (sDepositData d)) t)):w.cell? ⟨g,80,none⟩=some (.int .u64 d.f2):=seg_nu h 2 d.f2 (by kernel_rfl) 80 (by kernel_rfl)
theorem cD0 {w:World} {g:Nat} {d:VDepositData} {t:TypeId} (h:w.heap[g]?=some (.cells (cel (sDepositData d)) t)) (p:Nat) (hp:p < 48):w.cell? ⟨g,p,none⟩=some (.int .u8 (d.f0 p)):=by
 have:=byte_at [] [.by 32 d.f1,.nu d.f2,.by 96 d.f3] 48 d.f0 (t:=t) h p hp
 rw [show slen []+p=p from Nat.zero_add p] at this
 exact this
theorem cD1 {w:World} {g:Nat} {d:VDepositData} {t:TypeId} (h:w.heap[g]?=some (.cells (cel (sDepositData d)) t)) (p:Nat) (hp:p < 32):w.cell? ⟨g,48+p,none⟩=some (.int .u8 (d.f1 p)):=byte_at [.by 48 d.f0] [.nu d.f2,.by 96 d.f3] 32 d.f1 (t:=t) h p hp
theorem tvV_bd {f:Nat→Int} {len:Nat} {n:Int} (hf:ByB f (32*len)) (j:Nat) (hj:j < 32):0≤treeV f len n j∧treeV f len n j < 256:=by
 unfold treeV
 split
 ·exact nd_bd hf _ _ j hj
 ·exact ⟨Int.le_refl _,by show (0:Int) < 256;decide⟩
set_option maxHeartbeats 4000000 in
theorem rMessage_any (d : VDepositData) (w : World) (hd : OkDepositData d) (hC : Tab w 1 64 KW) :
    Calls Tryz.prog 25 #[.agg (cel (sDepositData d))] w fun e' w'=>e'=.returned (.agg (vs .u8 32 (msV d)))∧Below w.heap.size w w':=by
 obtain ⟨W0,hW0⟩:∃ W,(w.alloc (.cells (cel (sDepositData d)) 58)).alloc (.cells (vs .u8 32 fun _=>0) 24)=W:=⟨_,rfl⟩
 have r0:W0.heap[w.heap.size]?=some (.cells (cel (sDepositData d)) 58):=by rw [←hW0];exact (heap_old (by simp)).trans (heap_new rfl)
 have r1:W0.heap[w.heap.size+1]?=some (.cells (vs .u8 32 fun _=>0) 24):=by rw [←hW0];exact heap_new (by simp)
 have hB0:Below w.heap.size w W0:=by rw [←hW0];exact ((Below.refl _ _).alloc (Nat.le_refl _) _).alloc (by simp) _
 have z1:w.heap.size+1 < W0.heap.size:=some_ltK r1
 have hC0:=hC.below hB0
 have zr:=zero_root
 have z8:=zero_8
 have ca:=cD2 r0
 have hby:=rbytes_any d.f2 W0 hd.2.2.1.1 (by have:=hd.2.2.1.2;omega)
 have hpk:∀ W:World,Below W0.heap.size W0 W→Calls Tryz.prog 35 #[.slice (some ⟨w.heap.size,0,none⟩) 48 48] W fun e w'=>∃ a' cap',e=.returned (.slice a' 2 cap')∧Below W.heap.size W w'∧Rts w' a' 2 cap' (pk d.f0 48):=fun W h=>rpack_any (some ⟨w.heap.size,0,none⟩) 48 48 d.f0 W (.inr (.inr ⟨w.heap.size,0,rfl,by omega,by omega,by have:=h.size;omega,fun j hj=>by rw [Nat.zero_add];exact cD0 ((h.block _ (by omega)).trans r0) j hj⟩)) (by omega)
 have hpb:ByB (pk d.f0 48) (32*2):=fun j _=>pk_in hd.1 j
 have hm2:∀ (W:World) a c,Below W0.heap.size W0 W→2≤c→Rts W a 2 c (pk d.f0 48)→Calls Tryz.prog 34 #[.slice a 2 c,.int .i64 2] W fun e w'=>e=.returned (.agg (vs .u8 32 (treeV (pk d.f0 48) 2 2)))∧Below W.heap.size W w':=fun W a c h hc hr=>must7 a 2 c (pk d.f0 48) 2 W (hC0.below h) hr hc hpb (by decide) (by decide) (by decide)
 have hpn:∀ (W:World) y,Below W0.heap.size W0 W→W.heap[y]?=some (.cells (vs .u8 8 (nmB d.f2)) 119)→Calls Tryz.prog 35 #[.slice (some ⟨y,0,none⟩) 8 8] W fun e w'=>∃ a' cap',e=.returned (.slice a' 1 cap')∧Below W.heap.size W w'∧Rts w' a' 1 cap' (pk (nmB d.f2) 8):=fun W y h hy=>rpack_any (some ⟨y,0,none⟩) 8 8 (nmB d.f2) W (.inr (.inr ⟨y,0,rfl,by omega,by omega,some_ltK hy,fun j hj=>by rw [Nat.zero_add];exact row_int hy j hj⟩)) (by omega)
 have hmb:ByB (msF d) (32*3):=msF_bd hd.2.1 (fun j hj=>tvV_bd hpb j hj)
 have hm3:∀ (W:World) y,Below W0.heap.size W0 W→W.heap[y]?=some (.cells (vs .u8 96 (msF d)) 24)→Calls Tryz.prog 34 #[.slice (some ⟨y,0,none⟩) 3 3,.int .i64 3] W fun e w'=>e=.returned (.agg (vs .u8 32 (msV d)))∧Below W.heap.size W w':=fun W y h hy=>must7 (some ⟨y,0,none⟩) 3 3 (msF d) 3 W (hC0.below h) (.inr (.inr ⟨y,0,rfl,by omega,some_ltK hy,fun j hj=>by rw [Nat.zero_add];exact row_int hy j hj⟩)) (by omega) hmb (by decide) (by decide) (by decide)
 have hl1:∀ W:World,W.heap[w.heap.size]?=W0.heap[w.heap.size]?→(lv24 ⟨w.heap.size,48,none⟩).run Tryz.prog W=.ok (.agg (vs .u8 32 d.f1)) W:=fun W h=>lv24_mid (cD1 (h.trans r0))
 have emf:msF d=fl7 [treeV (pk d.f0 48) 2 2,d.f1,pk (nmB d.f2) 8]:=rfl
 rw [emf] at hm3
 generalize msV d=MS at hm3 ⊢
 generalize treeV (pk d.f0 48) 2 2=PT at hm2 hm3
 generalize pk d.f0 48=PK at hpk hm2
 generalize pk (nmB d.f2) 8=PN at hpn hm3
 generalize d.f1=C1 at hm3 hl1
 generalize d.f2=A2 at ca hby hpn
 have v8:=fun W=>sv8_newv W (fun _=>0) (nmB A2)
 have v4:=fun W=>sv24_newv W (fun _=>0) PT
 have HB:=hid hB0
 have HW:=hid hW0
 have HBY:=hid hby
 have HPK:=hid hpk
 have HM2:=hid hm2
 have HPN0:=hid hpn
 have HM3:=hid hm3
 have HL0:=hid hl1
 have HR1:=hid r1
 clear hB0 hW0 hby hpk hm2 hpn hm3 hl1 hmb hpb emf hC hC0 r0 r1 hd
 go_enter Tryz.func25,Tryz.ntmps25
 go_upto_region 1 with fail
 rw [HW.out]
 clear HW
 go_upto_region 2 with (go_at_call 61;refine HBY.out.mono ?_;rintro e' w1 ⟨rfl,hb1⟩)
 obtain ⟨W2,hW2⟩:∃ W,w1.alloc (.cells (vs .u8 8 (nmB A2)) 119)=W:=⟨_,rfl⟩
 rw [hW2]
 have rk:W2.heap[w1.heap.size]?=some (.cells (vs .u8 8 (nmB A2)) 119):=by rw [←hW2];exact heap_new rfl
 have hE2:Below W0.heap.size W0 W2:=by rw [←hW2];exact hb1.alloc hb1.size _
 obtain ⟨y3,e3⟩:∃ y,w1.heap.size=y:=⟨_,rfl⟩
 rw [e3] at rk ⊢
 have hpk:=HPK.out W2 hE2
 have HPK2:=hid hpk
 have HRK:=hid rk
 have HE2:=hid hE2
 clear hpk rk hE2 hW2 e3 hb1 z8 v8 ca HBY HPK
 go_upto_region 3 with (first
  | (go_at_call 35; go_loud (refine HPK2.out.mono ?_; rintro e' w3 ⟨a3, c3, rfl, hd3, hr3⟩; have hE3 := HE2.out.trans (hd3.mono HE2.out.size); have HM := hid (HM2.out w3 a3 c3 hE3 (rtsCap hr3 (by omega)) hr3); have HD3 := hid (And.intro hd3 hE3); clear hd3 hE3 hr3))
  | (go_at_call 34; refine HM.out.mono ?_; rintro e' w3' ⟨rfl, hd4⟩))
 obtain ⟨W4,hW4⟩:∃ W,w3'.alloc (.cells (vs .u8 32 PT) 24)=W:=⟨_,rfl⟩
 rw [hW4]
 have r4:W4.heap[w3'.heap.size]?=some (.cells (vs .u8 32 PT) 24):=by rw [←hW4];exact heap_new rfl
 have hE24:Below W2.heap.size W2 W4:=by rw [←hW4];exact (HD3.out.1.trans (hd4.mono HD3.out.1.size)).alloc (HD3.out.1.trans (hd4.mono HD3.out.1.size)).size _
 have hE4:Below W0.heap.size W0 W4:=HE2.out.trans (hE24.mono HE2.out.size)
 have rk4:=(hE24.block _ (some_ltK HRK.out)).trans HRK.out
 obtain ⟨y4,e4⟩:∃ y,w3'.heap.size=y:=⟨_,rfl⟩
 rw [e4] at r4 ⊢
 have up:∀ W:World,Below W4.heap.size W4 W→Below W0.heap.size W0 W:=fun W h=>hE4.trans (h.mono hE4.size)
 have y4g:w.heap.size+1 < y4:=by
  have:=hE4.size
  have:=HD3.out.2.size
  have:=hd4.size
  omega
 have q4:=some_ltK r4
 have e0:W4.heap[w.heap.size]?=W0.heap[w.heap.size]?:=hE4.block _ (by omega)
 have hl4:∀ W:World,W.heap[y4]?=W4.heap[y4]?∧W.heap[w.heap.size]?=W4.heap[w.heap.size]?→(lv24 ⟨y4,0,none⟩).run Tryz.prog W=.ok (.agg (vs .u8 32 PT)) W:=fun W h=>lv24_run (h.1.trans r4)
 have hl1:∀ W:World,W.heap[y4]?=W4.heap[y4]?∧W.heap[w.heap.size]?=W4.heap[w.heap.size]?→(lv24 ⟨w.heap.size,48,none⟩).run Tryz.prog W=.ok (.agg (vs .u8 32 C1)) W:=fun W h=>HL0.out W (h.2.trans e0)
 have kp:∀ W:World,Below W4.heap.size W4 W→W.heap[y4]?=W4.heap[y4]?∧W.heap[w.heap.size]?=W4.heap[w.heap.size]?:=fun W h=>⟨h.block _ q4,h.block _ (by omega)⟩
 have ks:∀ W:World,Below W4.heap.size W4 W→∀ C:Array Value,(W.setRow (w.heap.size+1) C).heap[y4]?=W4.heap[y4]?∧(W.setRow (w.heap.size+1) C).heap[w.heap.size]?=W4.heap[w.heap.size]?:=fun W h C=>by
  rw [setRow_other (by omega),setRow_other (by omega)]
  exact kp W h
 have KP:=hid kp
 have KS:=hid ks
 clear kp ks q4 e0
 have hpn:∀ W:World,Below W4.heap.size W4 W→Calls Tryz.prog 35 #[.slice (some ⟨y3,0,none⟩) 8 8] W fun e w'=>∃ a' cap',e=.returned (.slice a' 1 cap')∧Below W.heap.size W w'∧Rts w' a' 1 cap' PN:=fun W h=>HPN0.out W y3 (up W h) ((h.block _ (some_ltK rk4)).trans rk4)
 have hmm:=fun (W:World) y (h:Below W4.heap.size W4 W) (hy:W.heap[y]?=some (.cells (vs .u8 96 (fl7 [PT,C1,PN])) 24))=>HM3.out W y (up W h) hy
 have hr2:∀ W:World,Below W4.heap.size W4 W→W.heap[w.heap.size+1]?=some (.cells (vs .u8 32 fun _=>0) 24):=fun W h=>((up W h).block _ z1).trans HR1.out
 have hBd:Below W4.heap.size W4 W4.drew:=(Below.refl _ _).drew
 have HL4:=hid hl4
 have HL1:=hid hl1
 have HPN:=hid hpn
 have HMM:=hid hmm
 have HR2:=hid hr2
 have HUP:=hid up
 clear hl4 hl1 hpn hmm hr2 up hE4 hE24 rk4 r4 hW4 e4 hd4 zr v4 HRK HE2 HPN0 HM3 HL0 HR1 HD3 HM HM2 HPK2
 refine wp_region_noPanic ?_
 refine wp_region_held_drew (S:=fun W=>W.heap[y4]?=W4.heap[y4]?∧W.heap[w.heap.size]?=W4.heap[w.heap.size]?) (by kernel_rfl) (KP.out _ hBd) (fun hHeld=>?_)
 refine tk 0 (v:=?v301) ?y301 hHeld ?r301
 case y301=>intro w hSw;have ld0:=HL4.out w hSw;go_simp;try with_reducible rfl
 refine tk 1 (v:=?v302) ?y302 hHeld ?r302
 case y302=>intro w hSw;go_simp;try with_reducible rfl
 refine tk 2 (v:=?v303) ?y303 hHeld ?r303
 case y303=>intro w hSw;have ld0:=HL1.out w hSw;go_simp;try with_reducible rfl
 refine tk 3 (v:=?v304) ?y304 hHeld ?r304
 case y304=>intro w hSw;go_simp;try with_reducible rfl
 try simp only [Act.put,z_1,z_2,z_3,z_4,z_5,z_6,z_7]
 refine wpAnyH_ready (rs:=[4]) (by kernel_rfl) (by simp) ?_
 refine AllReadyH.cons rfl (fun K hK=>?_) AllReadyH.nil
 go_simp
 refine (HPN.out _ hBd).mono ?_
 rintro e' w5 ⟨a5,c5,rfl,hd5,hr5⟩
 dsimp only
 have hc5:Below W4.heap.size W4 w5:=hBd.trans (hd5.mono hBd.size)
 obtain ⟨b5,o5,hb5,hx0,hl5⟩:=hr5.at 0 (by omega)
 rw [rt32_0] at hl5
 have hx5:∀ W:World,(ix22 (.slice a5 1 c5) (.int .i64 0)).run Tryz.prog W=.ok (.pointer (some ⟨b5,o5,none⟩)) W:=hx0
 clear hx0
 refine hK.out _ _ (KP.out _ hc5) (fun hHeld=>?_)
 clear hK K
 try simp only [Act.put,z_1,z_2,z_3,z_4,z_5,z_6,z_7]
 refine wpAnyH_ready (rs:=[5]) (by kernel_rfl) (by simp) ?_
 refine AllReadyH.cons rfl (fun K hK=>?_) AllReadyH.nil
 have ld:=hx5 w5
 go_simp
 refine hK.out _ _ (KP.out _ hc5) (fun hHeld=>?_)
 clear hK K
 try simp only [Act.put,z_1,z_2,z_3,z_4,z_5,z_6,z_7]
 refine wpAnyH_ready (rs:=[6]) (by kernel_rfl) (by simp) ?_
 refine AllReadyH.cons rfl (fun K hK=>?_) AllReadyH.nil
 have ld:(lv24 ⟨b5,o5,none⟩).run Tryz.prog w5=.ok (.agg (vs .u8 32 PN)) w5:=lv24_mid hl5
 go_simp
 refine hK.out _ _ (KP.out _ hc5) (fun hHeld=>?_)
 clear hK K
 try simp only [Act.put,z_1,z_2,z_3,z_4,z_5,z_6,z_7]
 refine wpAnyH_ready (rs:=[7]) (by kernel_rfl) (by simp) ?_
 refine AllReadyH.cons rfl (fun K hK=>?_) AllReadyH.nil
 have ld:=bsR3 w5 PT C1 PN
 go_simp
 obtain ⟨W6,hW6⟩:∃ W,w5.alloc (.cells (vs .u8 96 (fl7 [PT,C1,PN])) 24)=W:=⟨_,rfl⟩
 rw [hW6]
 have r6:W6.heap[w5.heap.size]?=some (.cells (vs .u8 96 (fl7 [PT,C1,PN])) 24):=by rw [←hW6];exact heap_new rfl
 have hc6:Below W4.heap.size W4 W6:=by rw [←hW6];exact hc5.alloc hc5.size _
 obtain ⟨y6,e6⟩:∃ y,w5.heap.size=y:=⟨_,rfl⟩
 rw [e6] at r6 ⊢
 refine hK.out _ _ (KP.out _ hc6) (fun hHeld=>?_)
 clear hK K
 try simp only [Act.put,z_1,z_2,z_3,z_4,z_5,z_6,z_7]
 refine wpAnyH_ready (rs:=[8]) (by kernel_rfl) (by simp) ?_
 refine AllReadyH.cons rfl (fun K hK=>?_) AllReadyH.nil
 go_simp
 refine (HMM.out W6 y6 hc6 r6).mono ?_
 rintro e' w7 ⟨rfl,hd7⟩
 dsimp only
 have hc7:Below W4.heap.size W4 w7:=hc6.trans (hd7.mono hc6.size)
 refine hK.out _ _ (KP.out _ hc7) (fun hHeld=>?_)
 clear hK K
 try simp only [Act.put,z_1,z_2,z_3,z_4,z_5,z_6,z_7]
 refine wpAnyH_ready (rs:=[9]) (by kernel_rfl) (by simp) ?_
 refine AllReadyH.cons rfl (fun K hK=>?_) AllReadyH.nil
 have r2:=HR2.out w7 hc7
 have v3:=sv24_run r2 MS
 go_simp
 refine hK.out _ _ (KS.out _ hc7 _) (fun hHeld=>?_)
 clear hK K
 try simp only [Act.put,z_1,z_2,z_3,z_4,z_5,z_6,z_7]
 refine wpAnyH_done (by kernel_rfl) ?_ _
 refine NoPanic.normal ?_
 go_wp2
 have hE:=HUP.out w7 hc7
 exact ret24 2 (w.heap.size+1) MS 24 rfl rfl rfl (setRow_at r2) ⟨rfl,below_row (HB.out.trans (hE.mono HB.out.size)) (Nat.le_succ _) _⟩
end
section
open Go.RowKit
set_option linter.unusedVariables false
set_option linter.unusedSimpArgs false
set_option maxRecDepth 20000
theorem ap_rowL (W : World) (B : Nat) (v : Value) (n k cp b : Nat) (m c : Nat → Int) (ho : W.ownsRow B 5 1 v n (bl m n)) (hb : ∀ j, j < k → W.cell? ⟨b, j, none⟩ = some (.int .u8 (c j))) (hm : ∀ j, j < k → m (n + j) = c j) (hB : B ≤ W.heap.size) (hn : n + k ≤ 140737488353280) (hk0 : 0 < k) (ty : TypeId) :
    ∃ g' C' w',(ap22 ty v (.slice (some ⟨b,0,none⟩) k cp)).run Tryz.prog W=.ok (.slice (some ⟨g',0,none⟩) (n+k) C') w'∧w'.ownsRow B 5 1 (.slice (some ⟨g',0,none⟩) (n+k) C') (n+k) (bl m (n+k))∧Below B W w':=by
 obtain ⟨i,hi,hz0,hz1,hz2⟩:=info_parts info8
 obtain ⟨v',w',hr,ho',hg,_⟩:=run_append_own_at (P:=Tryz.prog) W B 39 ty 5 i (.int .u8 0) 1 1 Tryz.underlying39 hi hz0 hz1 hz2 rfl (by decide) v n (bl m n) ho ⟨b,0,none⟩ k cp (bl c k) (by rw [bl_len,Nat.mul_one])
  (fun j u hj=>by
   obtain ⟨h1,rfl⟩:=bl_get c k j u hj
   rw [addr_add,Nat.zero_add]
   exact hb j h1) (bl_one c k) (by unfold maxLen;omega) (by omega) hB
 rw [bl_add' m c n k hm] at ho'
 obtain ⟨g',C',rfl⟩:=owns_pos ho' (by omega)
 exact ⟨g',C',w',hr,ho',below_grown (Below.refl _ _) ho hB hg⟩
theorem qs_one (f r s:Nat→Int) (n j:Nat) (h:j < 48*n):qsF f n r s j=f j:=by unfold qsF;rw [if_pos h]
theorem qs_two (f r s:Nat→Int) (n j:Nat) (h:j < 32):qsF f n r s (48*n+j)=r j:=by unfold qsF;rw [if_neg (by omega),if_pos (by omega),show 48*n+j - 48*n=j by omega]
theorem qs_three (f r s:Nat→Int) (n j:Nat):qsF f n r s (48*n+32+j)=s j:=by unfold qsF;rw [if_neg (by omega),if_neg (by omega),show 48*n+32+j - (48*n+32)=j by omega]
attribute [local go_sem ↓] ixKy_eq lvKy_eq svKy_eq sv24_eq lv24_eq bdRo_eq bs22_eq
set_option maxHeartbeats 4000000 in
theorem rQuestion_any (a : Option Addr) (n cap : Nat) (f r s : Nat → Int) (w : World) (hk : Kys w a n cap f) (hf : ∀ j, j < 48 * n → 0 ≤ f j ∧ f j < 256) (hr : ∀ j, j < 32 → 0 ≤ r j ∧ r j < 256) (hs : ∀ j, j < 96 → 0 ≤ s j ∧ s j < 256) (hn : 48 * n ≤ 140737488351232) (hC : Tab w 1 64 KW) :
    Calls Tryz.prog 23 #[.slice a n cap,.agg (vs .u8 32 r),.agg (vs .u8 96 s)] w fun e' w'=>e'=.returned (.agg (vs .u8 32 (qsV f n r s)))∧Below w.heap.size w w':=by
 obtain ⟨W0,hW0⟩:∃ W,((w.alloc (.cells (vs .u8 32 r) 24)).alloc (.cells (vs .u8 96 s) 56)).alloc (.cells (vs .u8 32 fun _=>0) 24)=W:=⟨_,rfl⟩
 have r0:W0.heap[w.heap.size]?=some (.cells (vs .u8 32 r) 24):=by rw [←hW0];exact (heap_old (by simp<;>omega)).trans ((heap_old (by simp)).trans (heap_new rfl))
 have r1:W0.heap[w.heap.size+1]?=some (.cells (vs .u8 96 s) 56):=by rw [←hW0];exact (heap_old (by simp)).trans (heap_new (by simp))
 have r2:W0.heap[w.heap.size+2]?=some (.cells (vs .u8 32 fun _=>0) 24):=by rw [←hW0];exact heap_new (by simp)
 have hB0:Below w.heap.size w W0:=by rw [←hW0];exact (((Below.refl _ _).alloc (Nat.le_refl _) _).alloc (by simp) _).alloc (by simp<;>omega) _
 have z2:w.heap.size+2 < W0.heap.size:=some_ltK r2
 have hk0:=hk.below hB0
 have hC0:=hC.below hB0
 have zr:=zero_root
 have hap1:∀ (W:World) v,Below W0.heap.size W0 W→W.ownsRow W0.heap.size 5 1 v (48*n) (bl (qsF f n r s) (48*n))→∀ ty:TypeId,∃g C w',(ap22 ty v (.slice (some ⟨w.heap.size,0,none⟩) 32 32)).run Tryz.prog W=.ok (.slice (some ⟨g,0,none⟩) (48*n+32) C) w'∧w'.ownsRow W0.heap.size 5 1 (.slice (some ⟨g,0,none⟩) (48*n+32) C) (48*n+32) (bl (qsF f n r s) (48*n+32))∧Below W0.heap.size W0 w':=fun W v h ho ty=>by
  obtain ⟨g,C,w',h1,h2,h3⟩:=ap_rowL W W0.heap.size v (48*n) 32 32 w.heap.size (qsF f n r s) r ho (fun j hj=>row_int ((h.block _ (by omega)).trans r0) j hj) (fun j hj=>qs_two f r s n j hj) h.size (by omega) (by omega) ty
  exact ⟨g,C,w',h1,h2,h.trans h3⟩
 have hap2:∀ (W:World) g C,Below W0.heap.size W0 W→W.ownsRow W0.heap.size 5 1 (.slice (some ⟨g,0,none⟩) (48*n+32) C) (48*n+32) (bl (qsF f n r s) (48*n+32))→∀ ty:TypeId,∃g' C' w',(ap22 ty (.slice (some ⟨g,0,none⟩) (48*n+32) C) (.slice (some ⟨w.heap.size+1,0,none⟩) 96 96)).run Tryz.prog W=.ok (.slice (some ⟨g',0,none⟩) (48*n+128) C') w'∧w'.ownsRow W0.heap.size 5 1 (.slice (some ⟨g',0,none⟩) (48*n+128) C') (48*n+128) (bl (qsF f n r s) (48*n+128))∧Below W0.heap.size W0 w':=fun W g C h ho ty=>by
  obtain ⟨g',C',w',h1,h2,h3⟩:=ap_rowL W W0.heap.size _ (48*n+32) 96 96 (w.heap.size+1) (qsF f n r s) s ho (fun j hj=>row_int ((h.block _ (by omega)).trans r1) j hj) (fun j hj=>qs_three f r s n j) h.size (by omega) (by omega) ty
  exact ⟨g',C',w',h1,h2,h.trans h3⟩
 have hsu:∀ (W:World) g C,Below W0.heap.size W0 W→W.ownsRow W0.heap.size 5 1 (.slice (some ⟨g,0,none⟩) (48*n+128) C) (48*n+128) (bl (qsF f n r s) (48*n+128))→Calls Tryz.prog 60 #[.slice (some ⟨g,0,none⟩) (48*n+128) C] W fun e w'=>e=.returned (.agg (vs .u8 32 (qsV f n r s)))∧Below W.heap.size W w':=fun W g C h ho=>refsum_wide KW (qsF f n r s) (some ⟨g,0,none⟩) (48*n+128) C W (hC0.below h) (own_byF ho) (qsF_bd hf hr hs) (by omega)
 have hq1:=qs_one f r s n
 generalize qsV f n r s=X at hsu ⊢
 generalize qsF f n r s=QF at hap1 hap2 hsu hq1
 have HB:=hid hB0
 have HW:=hid hW0
 have HK:=hid hk0
 have HAP1:=hid hap1
 have HAP2:=hid hap2
 have HSU:=hid hsu
 have HR2:=hid r2
 have HQ1:=hid hq1
 clear hB0 hW0 hk0 hk hap1 hap2 hsu hC hC0 hf hr hs r0 r1 r2 hq1
 go_enter Tryz.func23,Tryz.ntmps23
 go_upto_region 1 with fail
 rw [HW.out]
 clear HW zr
 go_wp2
 go_loopg [7,8] n (fun k v c wr=>∃ (i:Nat) (v':Value),v=v'∧c=.int .i64 i∧i≤n∧n - i≤k∧wr.ownsRow W0.heap.size 5 1 v' (48*i) (bl f (48*i))∧Below W0.heap.size W0 wr)
 case atStart=>exact ⟨0,_,rfl,rfl,by omega,by omega,World.ownsRow_nil _ _ _ _,Below.refl _ _⟩
 case round =>
  obtain ⟨i,v,ev,rfl,hi,hk,ho,hw⟩:=hrel
  obtain rfl:=ev.symm
  clear ev
  by_cases hin:i < n
  ·have h1:(i:Int) < (n:Int):=by omega
   rcases HK.out.below hw with ⟨_,h0,_⟩ | ⟨_,_,h0⟩ | ⟨b,off,ea,hlc,hbl,hc⟩
   ·omega
   ·omega
   subst ea
   have ix:=fun W=>ixKy_run W b off n cap i hin
   have hby:Bys wr (some ⟨b,off+48*i,none⟩) 48 48 (fun j=>f (48*i+j)):=.inr (.inr ⟨b,off+48*i,rfl,by omega,by omega,hbl,fun j hj=>by rw [Nat.add_assoc];exact hc (48*i+j) (by omega)⟩)
   have HO:=hid ho
   have HWW:=hid hw
   have HBY:=hid hby
   clear ho hw hby hc hbl
   obtain ⟨P,eP⟩:∃ P,off+48*i=P:=⟨_,rfl⟩
   rw [eP] at HBY
   simp only [eP] at ix
   go_wp2_with (at_builtin;(refine wpList_append_bys wr rfl _ _ rfl W0.heap.size v (48*i) (bl f (48*i)) rfl HO.out (some ⟨b,P,none⟩) 48 48 _ rfl HBY.out (by omega) HWW.out.size ?_);intro v2 w2 ho2 hg2)
   have hb2:=below_grown HWW.out HO.out HWW.out.size hg2
   rw [bl_add' f _ (48*i) 48 (fun j _=>rfl)] at ho2
   go_roundg (n - (i+1))
   case measure=>omega
   case rel=>exact ⟨i+1,_,rfl,by simp,by omega,Nat.le_refl _,by rw [show 48*(i+1)=48*i+48 by omega];exact ho2,hb2⟩
  ·obtain rfl:i=n:=by omega
   have ho':=ho
   rw [blCongr (m:=f) (m':=QF) (fun j hj=>(HQ1.out j hj).symm)] at ho'
   have hdr:Below W0.heap.size W0 wr.drew:=hw.drew
   have hod:wr.drew.ownsRow W0.heap.size 5 1 v (48*i) (bl QF (48*i)):=own_below ho' (Below.refl _ _).drew
   have HDR:=hid hdr
   have HOD:=hid hod
   have hap:=HAP1.out
   clear HAP1
   have HAP1:=hid (fun (W:World) h ho ty=>hap W v h ho ty)
   clear hap hdr hod ho ho' hw HK HQ1 hk
   go_upto_region 6 with fail
   refine wp_region_noPanic ?_
   refine wp_region_held_drew (S:=fun _=>True) (by kernel_rfl) (trivial) (fun hHeld=>?_)
   refine tk 0 (v:=?v901) ?y901 hHeld ?r901
   case y901=>intro w hSw;go_simp;try with_reducible rfl
   refine tk 1 (v:=?v902) ?y902 hHeld ?r902
   case y902=>intro w hSw;go_simp;try with_reducible rfl
   refine tk 3 (v:=?v903) ?y903 hHeld ?r903
   case y903=>intro w hSw;go_simp;try with_reducible rfl
   try simp only [Act.put,z_1,z_2,z_3,z_4,z_5,z_6,z_7]
   refine wpAnyH_ready (rs:=[2]) (by kernel_rfl) (by simp) ?_
   refine AllReadyH.cons rfl (fun K hK=>?_) AllReadyH.nil
   obtain ⟨g1,C1,x1,hp1,ho1,hc1⟩:=HAP1.out _ HDR.out HOD.out 39
   refine wp_append_is _ _ rfl _ _ _ _ rfl rfl hp1 ?_
   refine hK.out _ _ (trivial) (fun hHeld=>?_)
   clear hK K
   try simp only [Act.put,z_1,z_2,z_3,z_4,z_5,z_6,z_7]
   refine wpAnyH_ready (rs:=[4]) (by kernel_rfl) (by simp) ?_
   refine AllReadyH.cons rfl (fun K hK=>?_) AllReadyH.nil
   obtain ⟨g2,C2,x2,hp2,ho2,hc2⟩:=HAP2.out x1 g1 C1 hc1 ho1 39
   refine wp_append_is _ _ rfl _ _ _ _ rfl rfl hp2 ?_
   refine hK.out _ _ (trivial) (fun hHeld=>?_)
   clear hK K
   try simp only [Act.put,z_1,z_2,z_3,z_4,z_5,z_6,z_7]
   refine wpAnyH_ready (rs:=[5]) (by kernel_rfl) (by simp) ?_
   refine AllReadyH.cons rfl (fun K hK=>?_) AllReadyH.nil
   go_simp
   refine (HSU.out x2 g2 C2 hc2 ho2).mono ?_
   rintro e' x3 ⟨rfl,hd3⟩
   dsimp only
   have hc3:Below W0.heap.size W0 x3:=hc2.trans (hd3.mono hc2.size)
   refine hK.out _ _ (trivial) (fun hHeld=>?_)
   clear hK K
   try simp only [Act.put,z_1,z_2,z_3,z_4,z_5,z_6,z_7]
   refine wpAnyH_ready (rs:=[6]) (by kernel_rfl) (by simp) ?_
   refine AllReadyH.cons rfl (fun K hK=>?_) AllReadyH.nil
   have r4:=(hc3.block _ z2).trans HR2.out
   have v3:=sv24_run r4 X
   go_simp
   refine hK.out _ _ (trivial) (fun hHeld=>?_)
   clear hK K
   try simp only [Act.put,z_1,z_2,z_3,z_4,z_5,z_6,z_7]
   refine wpAnyH_done (by kernel_rfl) ?_ _
   refine NoPanic.normal ?_
   go_wp2
   exact ret24 6 (w.heap.size+2) X 24 rfl rfl rfl (setRow_at r4) ⟨rfl,below_row (HB.out.trans (hc3.mono HB.out.size)) (by omega) _⟩
def ixRo (x i:Value):Sem Value:=Instr.index 24 x i
theorem ixRo_eq (x i:Value):Instr.index 24 x i=ixRo x i:=rfl
attribute [local go_sem ↓] ixRo_eq
def PDom:Prop:=∀ (x:VState) (k e:Int) (w:World),OkState x→-9223372036854775808≤k→k≤9223372036854775807→0≤e→e < 18446744073709551616→Sh w→Calls Tryz.prog 74 #[.agg (cel (sState x)),.int .i64 k,.int .u64 e] w fun e' w'=>e'=.returned (.agg (vs .u8 32 (domV x k e)))∧Below w.heap.size w w'
def PDep:Prop:=∀ w:World,Sh w→Calls Tryz.prog 91 #[] w fun e' w'=>e'=.returned (.agg (vs .u8 32 depV))∧Below w.heap.size w w'
def PRoo:Prop:=∀ (a b:Nat→Int) (w:World),(∀ j,j < 32→0≤a j∧a j < 256)→(∀ j,j < 32→0≤b j∧b j < 256)→Sh w→Calls Tryz.prog 75 #[.agg (vs .u8 32 a),.agg (vs .u8 32 b)] w fun e' w'=>e'=.returned (.agg (vs .u8 32 (tw a b)))∧Below w.heap.size w w'
def PMsg:Prop:=∀ (d:VDepositData) (w:World),OkDepositData d→Sh w→Calls Tryz.prog 90 #[.agg (cel (sDepositData d))] w fun e' w'=>e'=.returned (.agg (vs .u8 32 (msV d)))∧Below w.heap.size w w'
def PQue:Prop:=∀ (a:Option Addr) (n cap:Nat) (f r s:Nat→Int) (w:World),Kys w a n cap f→(∀ j,j < 48*n→0≤f j∧f j < 256)→(∀ j,j < 32→0≤r j∧r j < 256)→(∀ j,j < 96→0≤s j∧s j < 256)→48*n≤140737488351232→Sh w→Calls Tryz.prog 77 #[.slice a n cap,.agg (vs .u8 32 r),.agg (vs .u8 96 s)] w fun e' w'=>e'=.returned (.agg (vs .u8 32 (qsV f n r s)))∧Below w.heap.size w w'
def PGoo:Prop:=∀ (q f:Nat→Int) (a:Option Addr) (n cap:Nat) (w:World),Rts w a n cap f→n≤9223372036854775807→Calls Tryz.prog 32 #[.agg (vs .u8 32 q),.slice a n cap] w fun e' w'=>e'=.returned (.bool (gdB q f n))∧Below w.heap.size w w'
theorem depV_bd (j:Nat):0≤depV j∧depV j < 256:=dmV_bd ..
end
end Go.Proofs.YtfgmddnfhphdeaaGreatDoor
