/- A part. -/
import Derived.Test.YtfgmddnfhphdeaaGreatDoorMaD
namespace Go.Proofs.YtfgmddnfhphdeaaGreatDoor
open Go.RowKit
set_option linter.unusedVariables false
set_option linter.unusedSimpArgs false
section
open Go.RowKit
set_option linter.unusedVariables false
set_option linter.unusedSimpArgs false
attribute [local go_sem ↓] sv24_eq lv24_eq ix22_eq slr_eq lv48_eq sv48_eq bd48_eq bd27_eq bs22_eq sl22_eq mk22_eq eqo_eq
theorem trV_shf (f:Nat→Int) (s:Nat):∀ (d t n:Nat),trV (shf f s) d t n=trV f d (s+t) n
 | 0, t, n => by unfold trV; rw [rt32_shf]
 | d + 1, t, n => by unfold trV; rw [trV_shf f s d, trV_shf f s d, Nat.add_assoc]
theorem trV_bd {f:Nat→Int}:∀ (d s n:Nat),ByB f (32*(s+n))→∀ j,j < 32→0≤trV f d s n j∧trV f d s n j < 256
 | 0, s, n, hf => by
  intro j hj
  unfold trV
  by_cases h:n=0
  ·rw [if_pos h];exact zr_bd _ _
  ·rw [if_neg h];exact hf _ (by omega)
 | d + 1, s, n, hf => by
  intro j hj
  unfold trV
  by_cases h:n=0
  ·rw [if_pos h];exact zr_bd _ _
  ·rw [if_neg h];exact tw_bd _ _ _
def zrf (q:Nat):Int:=zr (q / 32) (q % 32)
theorem zrf_at (d:Nat):vs .u8 32 (rt32 zrf d)=vs .u8 32 (zr d):=vs_congr fun j hj=>by
 unfold rt32 zrf
 rw [show (32*d+j) / 32=d by omega,show (32*d+j) % 32=j by omega]
theorem Rts.cut {w:World} {a:Option Addr} {len cap n:Nat} {f:Nat→Int} (h:Rts w a len cap f) (hn:n≤len):Rts w a n cap f:=by
 rcases h with ⟨h1,h2,h3⟩ | ⟨x,h1,h2⟩ | ⟨b,off,h1,h2,h3,h4⟩
 ·exact .inl ⟨h1,by omega,h3⟩
 ·exact .inr (.inl ⟨x,h1,by omega⟩)
 ·exact .inr (.inr ⟨b,off,h1,by omega,h3,fun j hj=>h4 j (by omega)⟩)
set_option maxRecDepth 20000 in
set_option maxHeartbeats 2000000 in
theorem rtree_none (d : Nat) (w : World) (a : Option Addr) (cap : Nat) (az : Option Addr) (lz capz : Nat) (hz : Rts w az lz capz zrf) (hd : d < lz) (hlz : lz ≤ 100) :
    Calls Tryz.prog 102 #[.slice a 0 cap,.int .i64 d,.slice az lz capz] w fun e w'=>e=.returned (.agg (vs .u8 32 (zr d)))∧Below w.heap.size w w':=by
 obtain ⟨b,o,hb,hx,hc⟩:=hz.at d hd
 have z0:=zero_root
 have l0:=lv24_mid (w:=w.alloc (.cells (vs .u8 32 fun _=>0) 24)) (b:=b) (o:=o) (c:=rt32 zrf d) (fun j hj=>(below_cell ((Below.refl _ _).alloc (Nat.le_refl _) _) hb).trans (hc j hj))
 rw [zrf_at] at l0
 have sv:=sv24_newv w (fun _=>0) (zr d)
 clear hc hz
 go_enter Tryz.func102,Tryz.ntmps102
 go_wp2
 refine ret24 6 w.heap.size _ 24 rfl rfl rfl (heap_new rfl) ⟨rfl,by go_grown⟩
set_option maxRecDepth 20000 in
set_option maxHeartbeats 2000000 in
theorem rtree_one (w : World) (a : Option Addr) (n cap : Nat) (g : Nat → Int) (az : Option Addr) (lz capz : Nat) (hr : Rts w a n cap g) (hn : 0 < n) (hn2 : n ≤ 1099511627776) :
    Calls Tryz.prog 102 #[.slice a n cap,.int .i64 0,.slice az lz capz] w fun e w'=>e=.returned (.agg (vs .u8 32 (rt32 g 0)))∧Below w.heap.size w w':=by
 obtain ⟨b,o,hb,hx,hc⟩:=hr.at 0 hn
 rw [show ((0:Nat):Int)=0 from rfl] at hx
 have z0:=zero_root
 have b0:((n:Int) == 0)=false:=by simp;omega
 have l0:=lv24_mid (w:=w.alloc (.cells (vs .u8 32 fun _=>0) 24)) (b:=b) (o:=o) (c:=rt32 g 0) (fun j hj=>(below_cell ((Below.refl _ _).alloc (Nat.le_refl _) _) hb).trans (hc j hj))
 have sv:=sv24_newv w (fun _=>0) (rt32 g 0)
 clear hc hr
 go_enter Tryz.func102,Tryz.ntmps102
 go_wp2
 refine ret24 6 w.heap.size _ 24 rfl rfl rfl (heap_new rfl) ⟨rfl,by go_grown⟩
set_option maxRecDepth 20000 in
set_option maxHeartbeats 2000000 in
theorem rtree_any (d : Nat) : ∀ (w : World) (a : Option Addr) (n cap : Nat) (g : Nat → Int) (az : Option Addr) (lz capz : Nat), Rc w → Rts w a n cap g → ByB g (32 * n) → Rts w az lz capz zrf → d < lz → lz ≤ 100 → d ≤ 40 → n ≤ 1099511627776 → n ≤ cap →
    Calls Tryz.prog 102 #[.slice a n cap,.int .i64 d,.slice az lz capz] w fun e w'=>e=.returned (.agg (vs .u8 32 (trV g d 0 n)))∧Below w.heap.size w w':=by
 induction d with
 | zero =>
  intro w a n cap g az lz capz hC hr hg hz hd hlz hd40 hn hnc
  by_cases h0:n=0
  ·subst h0
   exact rtree_none 0 w a cap az lz capz hz hd hlz
  ·have hv:trV g 0 0 n=rt32 g 0:=by
    show (if n=0 then _ else _)=_
    rw [if_neg h0]
   rw [hv]
   exact rtree_one w a n cap g az lz capz hr (by omega) hn
 | succ d ih =>
  intro w a n cap g az lz capz hC hr hg hz hd hlz hd40 hn hnc
  by_cases h0:n=0
  ·subst h0
   exact rtree_none (d+1) w a cap az lz capz hz hd hlz
  ·have hv:trV g (d+1) 0 n=tw (trV g d 0 (min (2 ^ d) n)) (trV (shf g (min (2 ^ d) n)) d 0 (n - min (2 ^ d) n)):=by
    rw [trV_shf]
    show (if n=0 then _ else _)=_
    rw [if_neg h0,Nat.zero_add,Nat.add_zero]
   rw [hv]
   obtain ⟨h,hh⟩:∃ h,h=min (2 ^ d) n:=⟨_,rfl⟩
   rw [←hh]
   have hz0:=zero_root
   have b0:((n:Int) == 0)=false:=by simp;omega
   obtain ⟨m,em⟩:∃ m:Nat,m=d+1:=⟨_,rfl⟩
   rw [←em]
   have b1:((m:Int) == 0)=false:=by simp;omega
   have e1:(m:Int) - 1=(d:Int):=by omega
   have e2:IntKind.i64.wrap (d:Int)=(d:Int):=by rw [IntKind.wrap_i64];omega
   have hs:=shl_one d (by omega)
   obtain ⟨X,eX⟩:∃ X:Nat,2 ^ d=X:=⟨_,rfl⟩
   rw [eX] at hs hh
   have hm1:(m:Int)≤41:=by omega
   have hle:h≤n:=by omega
   have tail:(wrap64 ((2:Int) ^ d)=(h:Int)∧decide (n < h)=false)∨(wrap64 ((2:Int) ^ d)=(X:Int)∧decide (n < X)=true∧h=n):=by
    by_cases hx:n < X
    ·exact .inr ⟨hs,by simp;omega,by omega⟩
    ·exact .inl ⟨by rw [hs];congr 1;omega,by simp;omega⟩
   have s1:=fun W=>slr_run W a n cap 0 h none (some (.int .i64 h)) (.inr ⟨rfl,rfl⟩) (.inl rfl) (by omega) hle hnc
   rw [ofs_zero,Nat.sub_zero,Nat.sub_zero] at s1
   have s2:=fun W=>slr_run W a n cap h n (some (.int .i64 h)) none (.inl rfl) (.inr ⟨rfl,rfl⟩) hle (Nat.le_refl _) hnc
   obtain ⟨W0,hW0⟩:∃ W,w.alloc (.cells (vs .u8 32 fun _=>0) 24)=W:=⟨_,rfl⟩
   have hB0:Below w.heap.size w W0:=by rw [←hW0];exact (Below.refl _ _).alloc (Nat.le_refl _) _
   have r0:W0.heap[w.heap.size]?=some (.cells (vs .u8 32 fun _=>0) 24):=by rw [←hW0];exact heap_new rfl
   have z0:W0.heap.size=w.heap.size+1:=by rw [←hW0];simp
   have hbw:∀ W,Below W0.heap.size W0 W→Below w.heap.size w W:=fun W h=>hB0.trans (h.mono (by omega))
   have hc1:∀ W,Below W0.heap.size W0 W→Calls Tryz.prog 102 #[.slice a h cap,.int .i64 d,.slice az lz capz] W fun e w'=>e=.returned (.agg (vs .u8 32 (trV g d 0 h)))∧Below W0.heap.size W0 w':=by
    intro W hW
    have hb:=hbw W hW
    refine (ih W a h cap g az lz capz (hC.below hb) ((hr.below hb).cut hle) (fun q hq=>hg q (by omega)) (hz.below hb) (by omega) hlz (by omega) (by omega) (by omega)).mono ?_
    rintro e w' ⟨rfl,hb'⟩
    exact ⟨rfl,hW.trans (hb'.mono hW.size)⟩
   have hc2:∀ W,Below W0.heap.size W0 W→Calls Tryz.prog 102 #[.slice (ofs a cap h) (n - h) (cap - h),.int .i64 d,.slice az lz capz] W fun e w'=>e=.returned (.agg (vs .u8 32 (trV (shf g h) d 0 (n - h))))∧Below W0.heap.size W0 w':=by
    intro W hW
    have hb:=hbw W hW
    refine (ih W (ofs a cap h) (n - h) (cap - h) (shf g h) az lz capz (hC.below hb) ((hr.below hb).part h n hle (Nat.le_refl _)) (fun q hq=>hg _ (by omega)) (hz.below hb) (by omega) hlz (by omega) (by omega) (by omega)).mono ?_
    rintro e w' ⟨rfl,hb'⟩
    exact ⟨rfl,hW.trans (hb'.mono hW.size)⟩
   have hv1:=trV_bd (f:=g) d 0 h (fun q hq=>hg q (by omega))
   have hv2:=trV_bd (f:=shf g h) d 0 (n - h) (fun q hq=>hg _ (by omega))
   obtain ⟨V1,eV1⟩:∃ V,trV g d 0 h=V:=⟨_,rfl⟩
   obtain ⟨V2,eV2⟩:∃ V,trV (shf g h) d 0 (n - h)=V:=⟨_,rfl⟩
   rw [eV1] at hc1 hv1 ⊢
   rw [eV2] at hc2 hv2 ⊢
   have htw:∀ W,Below W0.heap.size W0 W→Calls Tryz.prog 38 #[.agg (vs .u8 32 V1),.agg (vs .u8 32 V2)] W fun e w'=>e=.returned (.agg (vs .u8 32 (tw V1 V2)))∧Below W0.heap.size W0 w':=by
    intro W hW
    refine (rtwo_tw V1 V2 W (hC.below (hbw W hW)) hv1 hv2).mono ?_
    rintro e w' ⟨rfl,hb'⟩
    exact ⟨rfl,hW.trans (hb'.mono hW.size)⟩
   have hdr:Below W0.heap.size W0 W0.drew:=⟨rfl,rfl,rfl,Nat.le_refl _,fun _ _=>rfl⟩
   have hfin:∀ W,Below W0.heap.size W0 W→(sv24 ⟨w.heap.size,0,none⟩ (.agg (vs .u8 32 (tw V1 V2)))).run Tryz.prog W=.ok () (W.setRow w.heap.size (vs .u8 32 (tw V1 V2)))∧(W.setRow w.heap.size (vs .u8 32 (tw V1 V2))).heap[w.heap.size]?=some (.cells (vs .u8 32 (tw V1 V2)) 24)∧Below w.heap.size w (W.setRow w.heap.size (vs .u8 32 (tw V1 V2))):=by
    intro W hW
    have r1:=(hW.block w.heap.size (by omega)).trans r0
    exact ⟨sv24_run r1 _,setRow_at r1,below_row (hbw W hW) (Nat.le_refl _) _⟩
   have HC1:=hid hc1
   have HC2:=hid hc2
   have HTW:=hid htw
   have HDR:=hid hdr
   have HFIN:=hid hfin
   have HW0:=hid hW0
   have dd:(d:Int)≤40:=by omega
   clear hc1 hc2 htw hdr hfin hW0 hB0 r0 z0 hbw hv1 hv2 eV1 eV2 hs hv em eX hh ih hC hr hg hz
   go_enter Tryz.func102,Tryz.ntmps102
   rcases tail with ⟨t1,t2⟩ | ⟨t1,t2,rfl⟩
   ·go_upto_region 8 with fail
    rw [HW0.out]
    refine wp_region_noPanic ?_
    refine wp_region_held_drew (S:=fun _=>True) (by kernel_rfl) (trivial) (fun hHeld=>?_)
    refine tk 0 (v:=?v1) ?y1 hHeld ?r1
    case y1=>intro w hSw;go_simp;try with_reducible rfl
    refine tk 1 (v:=?v2) ?y2 hHeld ?r2
    case y2=>intro w hSw;go_simp;try with_reducible rfl
    refine tk 2 (v:=?v3) ?y3 hHeld ?r3
    case y3=>intro w hSw;go_simp;try with_reducible rfl
    refine tk 3 (v:=?v4) ?y4 hHeld ?r4
    case y4=>intro w hSw;go_simp;try with_reducible rfl
    refine tk 4 (v:=?v5) ?y5 hHeld ?r5
    case y5=>intro w hSw;go_simp;try with_reducible rfl
    refine tk 5 (v:=?v6) ?y6 hHeld ?r6
    case y6=>intro w hSw;go_simp;try with_reducible rfl
    refine tk 7 (v:=?v7) ?y7 hHeld ?r7
    case y7=>intro w hSw;go_simp;try with_reducible rfl
    refine tk 8 (v:=?v8) ?y8 hHeld ?r8
    case y8=>intro w hSw;go_simp;try with_reducible rfl
    refine tk 9 (v:=?v9) ?y9 hHeld ?r9
    case y9=>intro w hSw;go_simp;try with_reducible rfl
    refine tk 10 (v:=?v10) ?y10 hHeld ?r10
    case y10=>intro w hSw;go_simp;try with_reducible rfl
    refine tk 11 (v:=?v11) ?y11 hHeld ?r11
    case y11=>intro w hSw;go_simp;try with_reducible rfl
    refine tk 12 (v:=?v12) ?y12 hHeld ?r12
    case y12=>intro w hSw;go_simp;try with_reducible rfl
    try simp only [Act.put,z_1,z_2,z_3,z_4,z_5,z_6,z_7]
    refine wpAnyH_ready (rs:=[6]) (by kernel_rfl) (by simp) ?_
    refine AllReadyH.cons rfl (fun K hK=>?_) AllReadyH.nil
    go_simp
    refine (HC1.out _ HDR.out).mono ?_
    rintro e w2 ⟨rfl,hs1⟩
    dsimp only
    refine hK.out _ _ (trivial) (fun hHeld=>?_)
    clear hK K
    try simp only [Act.put,z_1,z_2,z_3,z_4,z_5,z_6,z_7]
    refine wpAnyH_ready (rs:=[13]) (by kernel_rfl) (by simp) ?_
    refine AllReadyH.cons rfl (fun K hK=>?_) AllReadyH.nil
    go_simp
    refine (HC2.out _ hs1).mono ?_
    rintro e w3 ⟨rfl,hs2⟩
    dsimp only
    refine hK.out _ _ (trivial) (fun hHeld=>?_)
    clear hK K
    try simp only [Act.put,z_1,z_2,z_3,z_4,z_5,z_6,z_7]
    refine wpAnyH_ready (rs:=[14]) (by kernel_rfl) (by simp) ?_
    refine AllReadyH.cons rfl (fun K hK=>?_) AllReadyH.nil
    go_simp
    refine (HTW.out _ hs2).mono ?_
    rintro e w4 ⟨rfl,hs3⟩
    dsimp only
    refine hK.out _ _ (trivial) (fun hHeld=>?_)
    clear hK K
    try simp only [Act.put,z_1,z_2,z_3,z_4,z_5,z_6,z_7]
    have hf:=HFIN.out _ hs3
    have sv:=hf.1
    refine wpAnyH_ready (rs:=[15]) (by kernel_rfl) (by simp) ?_
    refine AllReadyH.cons rfl (fun K hK=>?_) AllReadyH.nil
    go_simp
    refine hK.out _ _ (trivial) (fun hHeld=>?_)
    clear hK K
    try simp only [Act.put,z_1,z_2,z_3,z_4,z_5,z_6,z_7]
    refine wpAnyH_done (by kernel_rfl) ?_ _
    refine NoPanic.normal ?_
    go_wp2
    exact ret24 6 w.heap.size _ 24 rfl rfl rfl hf.2.1 ⟨rfl,hf.2.2⟩
   ·go_upto_region 8 with fail
    rw [HW0.out]
    have hc2:=HC2.out
    rw [Nat.sub_self] at hc2 s2
    clear HC2
    have HC2:=hid hc2
    clear hc2
    refine wp_region_noPanic ?_
    refine wp_region_held_drew (S:=fun _=>True) (by kernel_rfl) (trivial) (fun hHeld=>?_)
    refine tk 0 (v:=?v13) ?y13 hHeld ?r13
    case y13=>intro w hSw;go_simp;try with_reducible rfl
    refine tk 1 (v:=?v14) ?y14 hHeld ?r14
    case y14=>intro w hSw;go_simp;try with_reducible rfl
    refine tk 2 (v:=?v15) ?y15 hHeld ?r15
    case y15=>intro w hSw;go_simp;try with_reducible rfl
    refine tk 3 (v:=?v16) ?y16 hHeld ?r16
    case y16=>intro w hSw;go_simp;try with_reducible rfl
    refine tk 4 (v:=?v17) ?y17 hHeld ?r17
    case y17=>intro w hSw;go_simp;try with_reducible rfl
    refine tk 5 (v:=?v18) ?y18 hHeld ?r18
    case y18=>intro w hSw;go_simp;try with_reducible rfl
    refine tk 7 (v:=?v19) ?y19 hHeld ?r19
    case y19=>intro w hSw;go_simp;try with_reducible rfl
    refine tk 8 (v:=?v20) ?y20 hHeld ?r20
    case y20=>intro w hSw;go_simp;try with_reducible rfl
    refine tk 9 (v:=?v21) ?y21 hHeld ?r21
    case y21=>intro w hSw;go_simp;try with_reducible rfl
    refine tk 10 (v:=?v22) ?y22 hHeld ?r22
    case y22=>intro w hSw;go_simp;try with_reducible rfl
    refine tk 11 (v:=?v23) ?y23 hHeld ?r23
    case y23=>intro w hSw;go_simp;try with_reducible rfl
    refine tk 12 (v:=?v24) ?y24 hHeld ?r24
    case y24=>intro w hSw;go_simp;try with_reducible rfl
    try simp only [Act.put,z_1,z_2,z_3,z_4,z_5,z_6,z_7]
    refine wpAnyH_ready (rs:=[6]) (by kernel_rfl) (by simp) ?_
    refine AllReadyH.cons rfl (fun K hK=>?_) AllReadyH.nil
    go_simp
    refine (HC1.out _ HDR.out).mono ?_
    rintro e w2 ⟨rfl,hs1⟩
    dsimp only
    refine hK.out _ _ (trivial) (fun hHeld=>?_)
    clear hK K
    try simp only [Act.put,z_1,z_2,z_3,z_4,z_5,z_6,z_7]
    refine wpAnyH_ready (rs:=[13]) (by kernel_rfl) (by simp) ?_
    refine AllReadyH.cons rfl (fun K hK=>?_) AllReadyH.nil
    go_simp
    refine (HC2.out _ hs1).mono ?_
    rintro e w3 ⟨rfl,hs2⟩
    dsimp only
    refine hK.out _ _ (trivial) (fun hHeld=>?_)
    clear hK K
    try simp only [Act.put,z_1,z_2,z_3,z_4,z_5,z_6,z_7]
    refine wpAnyH_ready (rs:=[14]) (by kernel_rfl) (by simp) ?_
    refine AllReadyH.cons rfl (fun K hK=>?_) AllReadyH.nil
    go_simp
    refine (HTW.out _ hs2).mono ?_
    rintro e w4 ⟨rfl,hs3⟩
    dsimp only
    refine hK.out _ _ (trivial) (fun hHeld=>?_)
    clear hK K
    try simp only [Act.put,z_1,z_2,z_3,z_4,z_5,z_6,z_7]
    have hf:=HFIN.out _ hs3
    have sv:=hf.1
    refine wpAnyH_ready (rs:=[15]) (by kernel_rfl) (by simp) ?_
    refine AllReadyH.cons rfl (fun K hK=>?_) AllReadyH.nil
    go_simp
    refine hK.out _ _ (trivial) (fun hHeld=>?_)
    clear hK K
    try simp only [Act.put,z_1,z_2,z_3,z_4,z_5,z_6,z_7]
    refine wpAnyH_done (by kernel_rfl) ?_ _
    refine NoPanic.normal ?_
    go_wp2
    exact ret24 6 w.heap.size _ 24 rfl rfl rfl hf.2.1 ⟨rfl,hf.2.2⟩
end
section
open Go.RowKit
set_option linter.unusedVariables false
set_option linter.unusedSimpArgs false
theorem bl_app (m m' f:Nat→Int) (n len:Nat) (hm1:∀ q,q < 32*n→m' q=m q) (hm2:∀ q,q < 32*len→m' (32*n+q)=f q):bl m (32*n)++bl f (32*len)=bl m' (32*(n+len)):=by
 unfold bl
 rw [Nat.mul_add,List.range_add,List.map_append,List.map_map]
 congr 1
 ·exact List.map_congr_left fun j hj=>by rw [hm1 j (List.mem_range.1 hj)]
 ·refine List.map_congr_left fun j hj=>?_
  show Value.int .u8 (f j)=Value.int .u8 (m' (32*n+j))
  rw [hm2 j (List.mem_range.1 hj)]
theorem apR_onto (w : World) (base g n cap : Nat) (m : Nat → Int) (hown : w.ownsRow base 24 32 (.slice (some ⟨g, 0, none⟩) n cap) n (bl m (32 * n))) (b off len c : Nat) (f : Nat → Int)
    (hc:∀ j,j < 32*len→w.cell? ⟨b,off+j,none⟩=some (.int .u8 (f j))) (hbd:(n+len)*32≤140737488355328) (hbase:base≤w.heap.size)
    (m':Nat→Int) (hm1:∀ q,q < 32*n→m' q=m q) (hm2:∀ q,q < 32*len→m' (32*n+q)=f q) (ty:TypeId) :
    ∃ v' w',(apR ty (.slice (some ⟨g,0,none⟩) n cap) (.slice (some ⟨b,off,none⟩) len c)).run Tryz.prog w=.ok v' w'∧w'.ownsRow base 24 32 v' (n+len) (bl m' (32*(n+len)))∧w.grownBy w' (some g)∧∀ j,j < 32*n→w'.cell? ⟨g,j,none⟩=some (.int .u8 (m j)):=by
 obtain ⟨i,hi,hz0,hz1,hz2⟩:=infoR
 have hzz:(Value.agg (vs .u8 32 fun _=>0)).cells.size=32:=by simp [Value.cells,vs_size]
 have e:=bl_app m m' f n len hm1 hm2
 have hnews:∀ j u,(bl f (32*len))[j]?=some u→w.cell? ((⟨b,off,none⟩:Addr).add j)=some u:=fun j u hj=>by
  obtain ⟨h1,rfl⟩:=bl_get f (32*len) j u hj
  rw [addr_add]
  exact hc j h1
 obtain ⟨v',w',hrun,ho,hg,_,_⟩:=run_append_own_at (P:=Tryz.prog) w base 32 ty 24 i _ 32 32 Tryz.underlying32 hi hz0 hz1 hz2 hzz (by decide) _ n _ hown ⟨b,off,none⟩ len c (bl f (32*len)) (by rw [bl_len];omega) hnews (bl_one f _) (by unfold maxLen;omega) (by omega) hbase
 rw [e] at ho
 refine ⟨v',w',hrun,ho,hg,?_⟩
 rcases hown.2 with ⟨h,_⟩ | ⟨g',cap',cur,h,hbg,hgg,hnc,hcm,hcs,htake⟩
 ·cases h
 ·cases h
  by_cases hroom:n+len≤cap
  ·have hr:=run_append_room (P:=Tryz.prog) w 32 ty 24 i Tryz.underlying32 hi g n cap cur hgg ⟨b,off,none⟩ len c (bl f (32*len)) (by rw [bl_len,hz1];omega) hnews (bl_one f _) hroom (by rw [bl_len,hcs,hz1];omega)
   have e2:=hrun.symm.trans hr
   injection e2 with e3 e4
   subst e3
   intro j hj
   rw [ho.cellAt j (by omega),bl_at _ _ _ (by omega),hm1 j hj]
  ·have hr:=run_append_grow (P:=Tryz.prog) w 32 ty 24 i _ Tryz.underlying32 hi hz0 ⟨g,0,none⟩ n cap (bl m (32*n)) (by rw [bl_len,hz1];omega) (hown.cells (g:=g) rfl) ⟨b,off,none⟩ len c (bl f (32*len)) (by rw [bl_len,hz1];omega) hnews (by omega) (by omega) (growslice_fits (by omega) (by rw [hz2];omega))
   have e2:=hrun.symm.trans hr
   injection e2 with e3 e4
   subst e4
   intro j hj
   have:=hown.cellAt j (by omega)
   rw [bl_at _ _ _ hj] at this
   rw [←this]
   exact World.cell?_alloc_lt _ _ _ (Array.getElem?_eq_some_iff.1 hgg).1
theorem ownsRow_below {w w':World} {B:Nat} {v:Value} {n s:Nat} {xs:List Value} {e:TypeId} (h:w.ownsRow B e s v n xs) (hb:Below w.heap.size w w'):w'.ownsRow B e s v n xs :=
 h.kept (row:=none) ⟨hb.os,hb.tape,hb.output,hb.size,fun k hk _=>hb.block k hk⟩ (by cases v.ownBlock<;>simp)
attribute [local go_sem ↓] sv24_eq lv24_eq ix22_eq slr_eq lv48_eq sv48_eq bd48_eq bd27_eq bs22_eq sl22_eq mk22_eq eqo_eq
set_option maxRecDepth 20000 in
set_option maxHeartbeats 2000000 in
theorem rzeros_any (D : Nat) (w : World) (hC : Rc w) (hD : D ≤ 60) :
    Calls Tryz.prog 104 #[.int .i64 D] w fun e w'=>∃ a cap,e=.returned (.slice a (D+1) cap)∧Below w.heap.size w w'∧Rts w' a (D+1) cap zrf:=by
 have HC:=hid hC
 clear hC
 have b0:=bd27_0
 have b1:=bs22_1 w (fun _=>0)
 have h0:(w.alloc (.cells (vs .u8 32 fun _=>0) 24)).ownsRow w.heap.size 24 32 (.slice (some ⟨w.heap.size,0,none⟩) 1 1) 1 (bl zrf (32*1)):=by
  have:=World.ownsRow_lit (base:=w.heap.size) (size:=32) (e:=24) w (vs .u8 32 fun _=>0) 1 (Nat.le_refl _) (by decide) (by rw [vs_size])
  rw [vs_list] at this
  have e:bl (fun _=>0) 32=bl zrf (32*1):=by
   unfold bl
   refine List.map_congr_left fun j hj=>?_
   have:=List.mem_range.1 hj
   unfold zrf
   rw [show j / 32=0 by omega]
   rfl
  have this2:(w.alloc (.cells (vs .u8 32 fun _=>0) 24)).ownsRow w.heap.size 24 32 (.slice (some ⟨w.heap.size,0,none⟩) 1 1) 1 (bl (fun _=>0) 32):=this
  rw [e] at this2
  exact this2
 have hB0:Below w.heap.size w (w.alloc (.cells (vs .u8 32 fun _=>0) 24)):=(Below.refl _ _).alloc (Nat.le_refl _) _
 have H0:=hid h0
 have HB0:=hid hB0
 clear h0 hB0
 go_enter Tryz.func104,Tryz.ntmps104
 go_wp2
 go_loopw [3] (fun v wr=>∃ k g cap:Nat,1≤k∧k≤D+1∧v=.slice (some ⟨g,0,none⟩) k cap∧Below w.heap.size w wr∧wr.ownsRow w.heap.size 24 32 v k (bl zrf (32*k))) (fun v _=>match v with | .slice _ k _=>D+1 - k | _=>0)
 case atStart=>exact ⟨1,w.heap.size,1,by omega,by omega,rfl,HB0.out,H0.out⟩
 case round =>
  obtain ⟨k,g,cap,hk1,hk2,rfl,hB,ho⟩:=hrel
  by_cases hlt:k≤D
  ·have c1:decide (k≤D)=true:=by simp;omega
   have c2:decide ((k:Int)≤(D:Int))=true:=by simp;omega
   obtain ⟨K,rfl⟩:∃ K,k=K+1:=⟨k - 1,by omega⟩
   obtain ⟨k,ek⟩:∃ k,K+1=k:=⟨_,rfl⟩
   rw [ek] at c1 c2 ho ⊢
   have s1:(k:Int) - 1=(K:Int):=by omega
   have hKb:K≤60:=by omega
   have wK:IntKind.i64.wrap (K:Int)=(K:Int):=i64_of _ (by omega) (by omega)
   have hx:∀ W,(ix22 (.slice (some ⟨g,0,none⟩) k cap) (.int .i64 K)).run Tryz.prog W=.ok (.pointer (some ⟨g,32*K,none⟩)) W:=fun W=>by
    have:=ix22_run W g 0 k cap K (by omega)
    rw [Nat.zero_add] at this
    exact this
   have hcl:∀ j,j < 32*k→wr.cell? ⟨g,j,none⟩=some (.int .u8 (zrf j)):=fun j hj=>by rw [ho.cellAt j (by omega),bl_at _ _ _ hj]
   have hgl:g < wr.heap.size:=(ho.lt g rfl).2
   have hl:∀ W,(Below w.heap.size w W∧∀ j,j < 32*k→W.cell? ⟨g,j,none⟩=some (.int .u8 (zrf j)))→(lv24 ⟨g,32*K,none⟩).run Tryz.prog W=.ok (.agg (vs .u8 32 (zr K))) W:=fun W h=>by
    have:=lv24_mid (w:=W) (b:=g) (o:=32*K) (c:=rt32 zrf K) (fun j hj=>h.2 _ (by omega))
    rw [zrf_at] at this
    exact this
   have hS0:Below w.heap.size w wr.drew∧∀ j,j < 32*k→wr.drew.cell? ⟨g,j,none⟩=some (.int .u8 (zrf j)):=⟨hB.drew,hcl⟩
   have htw:Calls Tryz.prog 38 #[.agg (vs .u8 32 (zr K)),.agg (vs .u8 32 (zr K))] wr.drew fun e w'=>e=.returned (.agg (vs .u8 32 (zr k)))∧Below wr.heap.size wr w':=by
    refine (rtwo_tw (zr K) (zr K) wr.drew (HC.out.below hB.drew) (fun j _=>zr_bd K j) (fun j _=>zr_bd K j)).mono ?_
    rintro e w' ⟨rfl,hb⟩
    refine ⟨by rw [←ek];rfl,((Below.refl wr.heap.size wr).drew).trans hb⟩
   have hkp:∀ W,Below wr.heap.size wr W→(Below w.heap.size w W∧∀ j,j < 32*k→W.cell? ⟨g,j,none⟩=some (.int .u8 (zrf j))):=fun W h=>⟨hB.trans (h.mono hB.size),fun j hj=>(below_cell h hgl).trans (hcl j hj)⟩
   have b2:=fun W=>bs22_1 W (zr k)
   have hap:∀ W ty,Below wr.heap.size wr W→∃ v' w',(apR ty (.slice (some ⟨g,0,none⟩) k cap) (.slice (some ⟨W.heap.size,0,none⟩) 1 1)).run Tryz.prog (W.alloc (.cells (vs .u8 32 (zr k)) 24))=.ok v' w'∧w'.ownsRow w.heap.size 24 32 v' (k+1) (bl zrf (32*(k+1)))∧Below w.heap.size w w'∧∀ j,j < 32*k→w'.cell? ⟨g,j,none⟩=some (.int .u8 (zrf j)):=by
    intro W ty h
    have hwk:=h.size
    have hbs:=hB.size
    have ho1:=(ownsRow_below ho h).alloc (.cells (vs .u8 32 (zr k)) 24)
    obtain ⟨v',w',hr,h1,h2,h3⟩:=apR_onto (W.alloc (.cells (vs .u8 32 (zr k)) 24)) w.heap.size g k cap zrf ho1 W.heap.size 0 1 1 (zr k) (fun j hj=>by rw [Nat.zero_add];exact row_int (heap_new rfl) j (by omega)) (by omega) (by simp;omega) zrf (fun q _=>rfl) (fun q hq=>by unfold zrf;rw [show (32*k+q) / 32=k by omega,show (32*k+q) % 32=q by omega]) ty
    exact ⟨v',w',hr,h1,below_grownS ((hB.trans (h.mono hB.size)).alloc (by omega) _) ho1 (by simp;omega) h2,h3⟩
   have hnew:∀ W,Below wr.heap.size wr W→(Below w.heap.size w (W.alloc (.cells (vs .u8 32 (zr k)) 24))∧∀ j,j < 32*k→(W.alloc (.cells (vs .u8 32 (zr k)) 24)).cell? ⟨g,j,none⟩=some (.int .u8 (zrf j))):=fun W h=>hkp _ (h.alloc h.size _)
   generalize zr K=C at hl htw
   generalize zr k=C2 at htw b2 hap hnew
   have HL:=hid hl
   have HS0:=hid hS0
   have HTW:=hid htw
   have HKP:=hid hkp
   have HAP:=hid hap
   have HNEW:=hid hnew
   have EK:=hid ek
   have HB:=hid hB
   clear hl hS0 htw hkp hap hnew ek hB ho hcl
   go_upto_region 3 with fail
   refine wp_region_noPanic ?_
   refine wp_region_held_drew (S:=fun W=>Below w.heap.size w W∧∀ j,j < 32*k→W.cell? ⟨g,j,none⟩=some (.int .u8 (zrf j))) (by kernel_rfl) (HS0.out) (fun hHeld=>?_)
   refine tk 0 (v:=?v1) ?y1 hHeld ?r1
   case y1=>intro w hSw;go_simp;try with_reducible rfl
   refine tk 1 (v:=?v2) ?y2 hHeld ?r2
   case y2=>intro w hSw;go_simp;try with_reducible rfl
   refine tk 2 (v:=?v3) ?y3 hHeld ?r3
   case y3=>intro w hSw;go_simp;try with_reducible rfl
   refine tk 3 (v:=?v4) ?y4 hHeld ?r4
   case y4=>intro w hSw;go_simp;try with_reducible rfl
   refine tk 4 (v:=?v5) ?y5 hHeld ?r5
   case y5=>intro w hSw;go_simp;try with_reducible rfl
   refine tk 5 (v:=?v6) ?y6 hHeld ?r6
   case y6=>intro w hSw;go_simp;try with_reducible rfl
   refine tk 6 (v:=?v7) ?y7 hHeld ?r7
   case y7=>intro w hSw;have ld:=HL.out _ hSw;go_simp;try with_reducible rfl
   refine tk 7 (v:=?v8) ?y8 hHeld ?r8
   case y8=>intro w hSw;go_simp;try with_reducible rfl
   refine tk 8 (v:=?v9) ?y9 hHeld ?r9
   case y9=>intro w hSw;go_simp;try with_reducible rfl
   refine tk 9 (v:=?v10) ?y10 hHeld ?r10
   case y10=>intro w hSw;go_simp;try with_reducible rfl
   refine tk 10 (v:=?v11) ?y11 hHeld ?r11
   case y11=>intro w hSw;go_simp;try with_reducible rfl
   refine tk 11 (v:=?v12) ?y12 hHeld ?r12
   case y12=>intro w hSw;go_simp;try with_reducible rfl
   refine tk 12 (v:=?v13) ?y13 hHeld ?r13
   case y13=>intro w hSw;have ld:=HL.out _ hSw;go_simp;try with_reducible rfl
   try simp only [Act.put,z_1,z_2,z_3,z_4,z_5,z_6,z_7]
   refine wpAnyH_ready (rs:=[13]) (by kernel_rfl) (by simp) ?_
   refine AllReadyH.cons rfl (fun K hK=>?_) AllReadyH.nil
   go_simp
   refine (HTW.out).mono ?_
   rintro e w1 ⟨rfl,hs1⟩
   dsimp only
   refine hK.out _ _ (HKP.out _ hs1) (fun hHeld=>?_)
   clear hK K
   try simp only [Act.put,z_1,z_2,z_3,z_4,z_5,z_6,z_7]
   refine wpAnyH_ready (rs:=[14]) (by kernel_rfl) (by simp) ?_
   refine AllReadyH.cons rfl (fun K hK=>?_) AllReadyH.nil
   go_simp
   refine hK.out _ _ (HNEW.out _ hs1) (fun hHeld=>?_)
   clear hK K
   try simp only [Act.put,z_1,z_2,z_3,z_4,z_5,z_6,z_7]
   refine wpAnyH_ready (rs:=[15]) (by kernel_rfl) (by simp) ?_
   refine AllReadyH.cons rfl (fun K hK=>?_) AllReadyH.nil
   obtain ⟨v2,w2,hr2,ho2,hs2⟩:=HAP.out _ 32 hs1
   rw [if_pos (by rfl)]
   refine wp_appendR_is _ _ rfl _ _ _ _ rfl rfl hr2 ?_
   refine hK.out _ _ hs2 (fun hHeld=>?_)
   clear hK K
   try simp only [Act.put,z_1,z_2,z_3,z_4,z_5,z_6,z_7]
   refine tk 16 (v:=?v14) ?y14 hHeld ?r14
   case y14=>intro w hSw;go_simp;try with_reducible rfl
   try simp only [Act.put,z_1,z_2,z_3,z_4,z_5,z_6,z_7]
   refine wpAnyH_done (by kernel_rfl) ?_ _
   refine NoPanic.normal ?_
   go_wp2
   obtain ⟨a2,cap2,rfl,_⟩:=RowR.ofOwns ho2
   go_roundw
   case rel =>
    rcases ho2.2 with ⟨h,h'⟩ | ⟨g2,cap3,cur,h,_⟩
    ·omega
    ·exact ⟨k+1,g2,cap2,by omega,by omega,by cases h;rfl,hs2.1,ho2⟩
   case measure=>show D+1 - (k+1) < D+1 - k;omega
  ·have c1:decide (k≤D)=false:=by simp;omega
   have c2:decide ((k:Int)≤(D:Int))=false:=by simp;omega
   obtain ⟨a2,cap2,ea,hrow⟩:=RowR.ofOwns ho
   have ek:k=D+1:=by omega
   have HR:=hid hrow.rts
   have HB:=hid hB
   cases ea
   clear hB ho hrow
   go_wp2
   go_ret
   subst ek
   exact ⟨_,_,rfl,HB.out,HR.out⟩
end
section
open Go.RowKit
set_option linter.unusedVariables false
set_option linter.unusedSimpArgs false
attribute [local go_sem ↓] sv24_eq lv24_eq ix22_eq slr_eq lv48_eq sv48_eq bd48_eq bd27_eq bs22_eq sl22_eq mk22_eq eqo_eq
theorem trV_tree (f:Nat→Int) (len d:Nat) (hl:len≤2 ^ d):vs .u8 32 (trV f d 0 len)=vs .u8 32 (nd f len d 0):=vs_congr fun j hj=>by
 rw [trV_nd f d 0 len hl j hj]
 have:shf f 0=f:=by funext q;unfold shf;rw [Nat.mul_zero,Nat.zero_add]
 rw [this]
set_option maxRecDepth 20000 in
set_option maxHeartbeats 1000000 in
theorem rtreeT_any (a : Option Addr) (len cap : Nat) (f : Nat → Int) (n : Int) (w : World) (hC : Rc w) (hr : Rts w a len cap f) (hlc : len ≤ cap) (hf : ByB f (32 * len)) (h0 : -9223372036854775808 ≤ n) (h1 : n ≤ 9223372036854775807) (hln : len ≤ 9223372036854775807) :
    Calls Tryz.prog 82 #[.slice a len cap,.int .i64 n] w fun e w'=>e=.returned (.tuple #[.agg (vs .u8 32 (treeV f len n)),.int .i64 (treeE len n)])∧Below w.heap.size w w':=by
 have z:=zero_root
 have HC:=hid hC
 have HR:=hid hr
 have HF:=hid hf
 clear hC hr hf
 by_cases hn:okL n
 ·obtain ⟨m,rfl⟩:∃ m:Nat,n=(m:Int):=⟨n.toNat,by have:=hn.1;omega⟩
  have hm:m≤1099511627776:=by have:=hn.2;omega
  have d1:decide ((m:Int) < 0)=false:=by simp
  have d2:decide ((1099511627776:Int) < (m:Int))=false:=by simp;omega
  have d3:decide (1099511627776 < m)=false:=by simp;omega
  by_cases hle:(len:Int)≤m
  ·unfold treeV treeE
   rw [if_pos ⟨hn,hle⟩,if_pos hn,if_pos hle,Int.toNat_natCast]
   have hD:=fun W=>rdepth_any m W hm
   have hD2:=dpt_le m hm
   have hD3:=dpt_ge m hm
   generalize dpt m=D at hD hD2 hD3 ⊢
   have e1:=trV_tree f len D (by omega)
   generalize nd f len D 0=V at e1 ⊢
   have bb:decide ((m:Int) < (len:Int))=false:=by simp;omega
   have bb2:decide (m < len)=false:=by simp;omega
   have hlm:len≤1099511627776:=by omega
   have HD:=hid hD
   have E1:=hid e1
   clear hn h0 h1 hle hD hD3 e1
   go_enter Tryz.func82,Tryz.ntmps82
   go_upto_region 5 with fail
   obtain ⟨W0,hW0⟩:∃ W,w.alloc (.cells (vs .u8 32 fun _=>0) 24)=W:=⟨_,rfl⟩
   rw [hW0]
   have hB0:Below w.heap.size w W0:=by rw [←hW0];go_grown
   have r0:W0.heap[w.heap.size]?=some (.cells (vs .u8 32 fun _=>0) 24):=by rw [←hW0];exact heap_new rfl
   have z0:W0.heap.size=w.heap.size+1:=by rw [←hW0];simp
   have hzs:=rzeros_any D W0 (HC.out.below hB0) (by omega)
   have HZS:=hid hzs
   have htr:∀ W az capz,Below W0.heap.size W0 W→Rts W az (D+1) capz zrf→Calls Tryz.prog 102 #[.slice a len cap,.int .i64 D,.slice az (D+1) capz] W fun e w'=>e=.returned (.agg (vs .u8 32 V))∧Below W0.heap.size W0 w':=by
    intro W az capz h hz
    have hb:=hB0.trans (h.mono hB0.size)
    refine (rtree_any D W a len cap f az (D+1) capz (HC.out.below hb) (HR.out.below hb) HF.out hz (by omega) (by omega) hD2 hlm hlc).mono ?_
    rintro e w' ⟨rfl,h2⟩
    exact ⟨by rw [E1.out],h.trans (h2.mono h.size)⟩
   have HTR:=hid htr
   have H0:=hid (And.intro hB0 (And.intro r0 z0))
   clear hzs htr hB0 r0 z0 hW0
   go_wp2_with (first
    | (go_at_call 103; refine (HD.out _).mono ?_; rintro e w1 ⟨rfl, rfl⟩)
    | (go_at_call 104; refine HZS.out.mono ?_; rintro e w2 ⟨az, capz, rfl, hb2, hz2⟩)
    | (go_at_call 102; refine (HTR.out _ az capz hb2 hz2).mono ?_; rintro e w3 ⟨rfl, hb3⟩; have sv := sv24_run ((hb3.block w.heap.size (by have := H0.out.2.2; omega)).trans H0.out.2.1) V))
   have z0:=H0.out.2.2
   refine ret24s 4 5 w.heap.size _ 24 _ rfl rfl rfl rfl (setRow_at ((hb3.block w.heap.size (by omega)).trans H0.out.2.1)) ⟨rfl,?_⟩
   exact below_row (H0.out.1.trans (hb3.mono (by omega))) (Nat.le_refl _) _
  ·unfold treeV treeE
   rw [if_neg (fun h=>hle h.2),if_pos hn,if_neg hle]
   have bb:decide ((m:Int) < (len:Int))=true:=by simp;omega
   have bb2:decide (m < len)=true:=by simp;omega
   have b0:=bd27_0
   have sv:=sv24_newv w (fun _=>0) (fun _=>0)
   clear hn h0 h1 hle
   go_enter Tryz.func82,Tryz.ntmps82
   go_wp2
   refine ret24s 4 5 w.heap.size _ 24 _ rfl rfl rfl rfl (heap_new rfl) ⟨rfl,?_⟩
   go_grown
 ·unfold treeV treeE
  rw [if_neg (fun h=>hn h.1),if_neg hn]
  have b0:=bd27_0
  have sv:=sv24_newv w (fun _=>0) (fun _=>0)
  by_cases hneg:n < 0
  ·have d1:decide (n < 0)=true:=by simp;omega
   clear hn
   go_enter Tryz.func82,Tryz.ntmps82
   go_wp2
   refine ret24s 4 5 w.heap.size _ 24 _ rfl rfl rfl rfl (heap_new rfl) ⟨rfl,?_⟩
   go_grown
  ·have d1:decide (n < 0)=false:=by simp;omega
   have d2:decide (1099511627776 < n)=true:=by
    have:¬ n≤1099511627776:=fun h=>hn ⟨by omega,h⟩
    simp;omega
   clear hn
   go_enter Tryz.func82,Tryz.ntmps82
   go_wp2
   refine ret24s 4 5 w.heap.size _ 24 _ rfl rfl rfl rfl (heap_new rfl) ⟨rfl,?_⟩
   go_grown
set_option maxHeartbeats 1000000 in
theorem rbytes_any (n : Int) (w : World) (h0 : 0 ≤ n) (h1 : n ≤ 18446744073709551615) :
    Calls Tryz.prog 61 #[.int .u64 n] w fun e w'=>e=.returned (.agg (vs .u8 8 (nmB n)))∧Below w.heap.size w w':=by
 have e0:vs .u8 8 (nmB n)=#[.int .u8 (n % 256),.int .u8 (n / 256 % 256),.int .u8 (n / 65536 % 256),.int .u8 (n / 16777216 % 256),.int .u8 (n / 4294967296 % 256),.int .u8 (n / 1099511627776 % 256),.int .u8 (n / 281474976710656 % 256),.int .u8 (n / 72057594037927936)]:=by
  have e7:n / 72057594037927936=n / 72057594037927936 % 256:=by omega
  have e1:n % 256=n / 1 % 256:=by omega
  rw [e7,e1]
  rfl
 rw [e0]
 clear e0
 go_enter Tryz.func61,Tryz.ntmps61
 go_wp2
 go_rounds 9
 go_returns
 exact ⟨rfl,by go_grown⟩
def sv53 (a:Addr) (v:Value):Sem Unit:=storeVar 119 a v
theorem sv53_eq (a:Addr) (v:Value):storeVar 119 a v=sv53 a v:=rfl
attribute [local go_sem ↓] sv53_eq
end
section
open Go.RowKit
set_option linter.unusedVariables false
set_option linter.unusedSimpArgs false
attribute [local go_sem ↓] sv24_eq lv24_eq ix22_eq slr_eq lv48_eq sv48_eq bd48_eq bd27_eq bs22_eq mk22_eq eqo_eq
set_option maxRecDepth 20000 in
set_option maxHeartbeats 2000000 in
theorem rpack_any (a : Option Addr) (len cap : Nat) (m : Nat → Int) (w : World) (hb : Bys w a len cap m) (hl : len + 64 ≤ 140737488355328) :
    Calls Tryz.prog 35 #[.slice a len cap] w fun e w'=>∃ a' cap',e=.returned (.slice a' ((len+31) / 32) cap')∧Below w.heap.size w w'∧Rts w' a' ((len+31) / 32) cap' (pk m len):=by
 have HBY:=hid hb
 clear hb
 have z:=zero_root
 go_enter Tryz.func35,Tryz.ntmps35
 go_wp2
 go_loopw [3,4] (fun v i wr=>∃ k:Nat,i=.int .i64 (32*k:Nat)∧32*k≤len+31∧Below w.heap.size w wr∧wr.ownsRow w.heap.size 24 32 v k (bl (pk m len) (32*k))) (fun _ i _=>len+32 - (intOf i).toNat)
 case atStart=>exact ⟨0,rfl,by omega,Below.refl _ _,World.ownsRow_nil _ _ _ _⟩
 case round =>
  obtain ⟨k,rfl,hk,hB,ho⟩:=hrel
  obtain ⟨P,hP⟩:∃ P,32*k=P:=⟨_,rfl⟩
  rw [hP] at hk ⊢
  by_cases hlt:P < len
  ·have b1:decide (P < len)=true:=by simp;omega
   have b2:decide ((P:Int) < (len:Int))=true:=by simp;omega
   rcases HBY.out with ⟨_,h,_⟩ | ⟨_,_,h⟩ | ⟨b,off,rfl,hlc,hcm,hbl,hc⟩
   ·omega
   ·omega
   have HP:=hid hP
   have HCL:=hid hc
   have HB:=hid hB
   have HO:=hid ho
   clear hP hB ho hc
   rename World=>wo
   go_wp2
   go_loopw [6] (fun j W1=>∃ q:Nat,q≤32∧P+q≤len∧j=.int .i64 q∧Below wo.heap.size wo W1∧W1.heap.size=wo.heap.size+1∧W1.heap[wo.heap.size]?=some (.cells (vs .u8 32 fun x=>if x < q then m (P+x) else 0) 24)) (fun j _=>32 - (intOf j).toNat)
   case atStart =>
    refine ⟨0,by omega,by omega,rfl,(Below.refl _ _).alloc (Nat.le_refl _) _,by simp,?_⟩
    exact (heap_new rfl).trans (congrArg (fun c=>some (Obj.cells c 24)) (vs_congr fun x _=>by rw [if_neg (by omega)]))
   case round =>
    obtain ⟨q,hq,hqp,rfl,hBi,hzi,rc⟩:=hrel
    obtain ⟨X,hX⟩:∃ X,P+q=X:=⟨_,rfl⟩
    have pq:(P:Int)+(q:Int)=(X:Int):=by omega
    by_cases h32:q < 32
    ·have c1:decide (q < 32)=true:=by simp;omega
     have c2:decide ((q:Int) < 32)=true:=by simp;omega
     by_cases hx:X < len
     ·have c3:decide (X < len)=true:=by simp;omega
      have c4:decide ((X:Int) < (len:Int))=true:=by simp;omega
      have hbs:=HB.out.size
      have cl:wr.cell? ⟨b,off+X,none⟩=some (.int .u8 (m X)):=(below_cell hBi (by show b < wo.heap.size;omega)).trans ((below_cell HB.out hbl).trans (HCL.out X hx))
      have cs:=row_int rc q (by omega)
      have fs:=row_frozen rc q
      have hXb:X≤140737488355328:=by omega
      have HX:=hid hX
      have RC:=hid rc
      have HBI:=hid hBi
      have HZI:=hid hzi
      clear rc hBi hzi hX
      go_wp2
      go_roundw
      case rel =>
       refine ⟨q+1,by omega,by have:=HX.out;omega,by go_num,HBI.out.setCell (Nat.le_refl _) _,(size_s _ _ _).trans HZI.out,?_⟩
       refine (row_set RC.out q _).trans ?_
       rw [vs_set]
       refine congrArg (fun c=>some (Obj.cells c 24)) (vs_congr fun x _=>?_)
       by_cases hq2:x=q
       ·subst hq2
        rw [if_pos rfl,if_pos (by omega),HX.out]
       ·rw [if_neg hq2]
        by_cases h2:x < q
        ·rw [if_pos h2,if_pos (by omega)]
        ·rw [if_neg h2,if_neg (by omega)]
      case measure=>simp [intOf];omega
     ·have c3:decide (X < len)=false:=by simp;omega
      have c4:decide ((X:Int) < (len:Int))=false:=by simp;omega
      have er:vs .u8 32 (fun x=>if x < q then m (P+x) else 0)=vs .u8 32 (fun x=>pk m len (P+x)):=vs_congr fun x hx=>by
       unfold pk
       by_cases h:x < q
       ·rw [if_pos h,if_pos (by omega)]
       ·rw [if_neg h,if_neg (by omega)]
      rw [er] at rc
      have lc:=lv24_run rc
      have bs:=bs22_1 wr (fun x=>pk m len (P+x))
      have hB2:Below w.heap.size w wr:=HB.out.trans (hBi.mono HB.out.size)
      have ho2:=ownsRow_below HO.out hBi
      have HB2:=hid hB2
      have HO2:=hid ho2
      have s2:=HB.out.size
      have s3:=hBi.size
      clear rc er hBi hB2 ho2 hzi
      go_wp2_with (at_builtin;go_loud (refine wpList_append_rts _ rfl _ _ rfl w.heap.size u3 k (pk m len) rfl (HO2.out.alloc _) _ 1 1 (fun x=>pk m len (P+x)) rfl (rts_row (heap_new rfl)) (by have:=HP.out;omega) (by simp;omega) (pk m len) (fun _ _=>rfl) (fun x _=>by rw [HP.out]) ?_);intro v3 w3 ho3 hg3)
      go_roundw
      case rel =>
       refine ⟨k+1,?_,by have:=HP.out;omega,below_grownS (HB2.out.alloc (by omega) _) (HO2.out.alloc _) (by simp;omega) hg3,ho3⟩
       have:=HP.out
       show Value.int .i64 _=Value.int .i64 _
       congr 1
       go_num
       try omega
      case measure=>simp [intOf];omega
    ·have c1:decide (q < 32)=false:=by simp;omega
     have c2:decide ((q:Int) < 32)=false:=by simp;omega
     have er:vs .u8 32 (fun x=>if x < q then m (P+x) else 0)=vs .u8 32 (fun x=>pk m len (P+x)):=vs_congr fun x hx=>by
      unfold pk
      by_cases h:x < q
      ·rw [if_pos h,if_pos (by omega)]
      ·rw [if_neg h,if_neg (by omega)]
     rw [er] at rc
     have lc:=lv24_run rc
     have bs:=bs22_1 wr (fun x=>pk m len (P+x))
     have hB2:Below w.heap.size w wr:=HB.out.trans (hBi.mono HB.out.size)
     have ho2:=ownsRow_below HO.out hBi
     have HB2:=hid hB2
     have HO2:=hid ho2
     have s2:=HB.out.size
     have s3:=hBi.size
     clear rc er hBi hB2 ho2 hzi
     go_wp2_with (at_builtin;go_loud (refine wpList_append_rts _ rfl _ _ rfl w.heap.size u3 k (pk m len) rfl (HO2.out.alloc _) _ 1 1 (fun x=>pk m len (P+x)) rfl (rts_row (heap_new rfl)) (by have:=HP.out;omega) (by simp;omega) (pk m len) (fun _ _=>rfl) (fun x _=>by rw [HP.out]) ?_);intro v3 w3 ho3 hg3)
     go_roundw
     case rel =>
      refine ⟨k+1,?_,by have:=HP.out;omega,below_grownS (HB2.out.alloc (by omega) _) (HO2.out.alloc _) (by simp;omega) hg3,ho3⟩
      have:=HP.out
      show Value.int .i64 _=Value.int .i64 _
      congr 1
      go_num
      try omega
     case measure=>simp [intOf];omega
  ·have b1:decide (P < len)=false:=by simp;omega
   have b2:decide ((P:Int) < (len:Int))=false:=by simp;omega
   obtain ⟨a',cap',rfl,hrow⟩:=RowR.ofOwns ho
   have hrt:=hrow.rts
   have ek:k=(len+31) / 32:=by omega
   have HR:=hid hrt
   have HB:=hid hB
   have EK:=hid ek
   clear hB ho hrow hrt ek hP
   go_wp2
   go_ret
   have ek:=EK.out
   rw [←ek]
   exact ⟨a',cap',rfl,HB.out,HR.out⟩
end
end Go.Proofs.YtfgmddnfhphdeaaGreatDoor
