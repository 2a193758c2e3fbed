/- A part. -/
import Derived.Test.YtdjplhibmomajaaGreatDoorPkB
import Derived.Deep.Cut
namespace Go.Proofs.YtdjplhibmomajaaGreatDoor
open Go.RowKit
set_option linter.unusedVariables false
set_option linter.unusedSimpArgs false
set_option maxRecDepth 20000
attribute [local go_sem ↓] aAq aAr aAz aAi aAl aAw aAu aAt aBJ
def prS (x:aA1):Nat→Int:=aCH KW HW (sd8 (aCP x (x.f2 / 4) 0) x.f2) 40
def prL (x:aA1):List Int:=dwL x.f11.z (acE x (x.f2 / 4)) (prS x) 1
def prE (x:aA1):Int:=dwE x.f11.z (acE x (x.f2 / 4)) (prS x) 1
def prV (x:aA1):Int:=(prL x).getD 0 0
theorem aKi (z:Nat→aA5) (L:List Int) (s:Nat→Int) (want:Nat):(dwE z L s want=0∧(dwL z L s want).length=want∧∀ v ∈ dwL z L s want,v ∈ L)∨(dwE z L s want=7∧dwL z L s want=[]):=by
 unfold dwE dwL
 by_cases h:dwO z L s want=true
 ·rw [if_pos h,if_pos h]
  unfold dwO at h
  rw [Bool.and_eq_true,decide_eq_true_eq,decide_eq_true_eq] at h
  exact .inl ⟨rfl,by rw [List.length_take];omega,fun v hv=>aPb z L s h.1 256 v (List.mem_of_mem_take hv)⟩
 ·rw [if_neg h,if_neg h]
  exact .inr ⟨rfl,rfl⟩
theorem aJS (W : World) (B : Nat) (v : Value) (n k cp b : Nat) (m c : Nat → Int) (ho : W.ownsRow B 5 1 v n (bl m n)) (hb : ∀ j, j < k → W.cell? ⟨b, j, none⟩ = some (.int .u8 (c j))) (hm : ∀ j, j < k → m (n + j) = c j) (hB : B ≤ W.heap.size) (hn : n ≤ 64) (hk : k ≤ 64) (hk0 : 0 < k) (ty : TypeId) :
    ∃ g' C' w',(aDO ty v (.slice (some ⟨b,0,none⟩) k cp)).run Tryz.prog W=.ok (.slice (some ⟨g',0,none⟩) (n+k) C') w'∧w'.ownsRow B 5 1 (.slice (some ⟨g',0,none⟩) (n+k) C') (n+k) (bl m (n+k))∧Below B W w'∧∀ B' u l,W.ownsRow B' 22 1 u l.length (iv6 l)→w'.ownsRow B' 22 1 u l.length (iv6 l):=by
 obtain ⟨g',C',w',h1,h2,h3,h4⟩:=aHp W B v n k cp b m c ho hb hm hB hn hk hk0 ty
 refine ⟨g',C',w',h1,h2,h3,fun B' u l hu=>⟨hu.1,?_⟩⟩
 rcases hu.2 with h | ⟨g,cap,cur,e1,e2,e3,e4⟩
 ·exact .inl h
 ·exact .inr ⟨g,cap,cur,e1,e2,h4 _ _ _ e3 (by decide),e4⟩
set_option maxHeartbeats 4000000 in
theorem aLj (x : aA1) (w : World) (ho : aAD x) (hx : Lk w x) (hC : Tab w 1 64 KW) :
    Calls Tryz.prog 58 #[.agg (cel (aA0 x))] w fun e' w'=>e'=.returned (.tuple #[.int .u64 (prV x),.int .i64 (prE x)])∧Below w.heap.size w w':=by
 obtain ⟨W0,hW0⟩:∃ W,w.alloc (.cells (cel (aA0 x)) 49)=W:=⟨_,rfl⟩
 have r0:W0.heap[w.heap.size]?=some (.cells (cel (aA0 x)) 49):=by rw [←hW0];exact aA2 rfl
 have hB0:Below w.heap.size w W0:=by rw [←hW0];exact (Below.refl _ _).alloc (Nat.le_refl _) _
 have z0:w.heap.size < W0.heap.size:=(Array.getElem?_eq_some_iff.1 r0).1
 have hld:∀ W:World,Below W0.heap.size W0 W→(aCc ⟨w.heap.size,0,none⟩).run Tryz.prog W=.ok (.agg (cel (aA0 x))) W:=fun W h=>aAg ((h.block _ z0).trans r0)
 have hc2:∀ W:World,Below W0.heap.size W0 W→W.cell? ⟨w.heap.size,33,none⟩=some (.int .u64 x.f2):=fun W h=>cS2 ((h.block _ z0).trans r0)
 have hx0:=hx.below hB0
 have hC0:=hC.below hB0
 have hsl:=hx.sl
 have hep:=aD6 x W0 hx.sl.1 hx.sl.2
 have hlen:=aJN (e:=x.f2 / 4) hx.nb
 have hac:∀ W,Below W0.heap.size W0 W→Calls Tryz.prog 98 #[.agg (cel (aA0 x)),.int .u64 (x.f2 / 4)] W fun e' w'=>∃ v,e'=.returned v∧w'.ownsRow W.heap.size 22 1 v (acE x (x.f2 / 4)).length (iv6 (acE x (x.f2 / 4)))∧Below W.heap.size W w':=fun W h=>aEC x (x.f2 / 4) W (hx0.below h)
 have hse:∀ W,Below W0.heap.size W0 W→Calls Tryz.prog 96 #[.agg (cel (aA0 x)),.int .u64 (x.f2 / 4),.int .i64 0] W fun e' w'=>e'=.returned (.agg (vs .u8 32 (aCP x (x.f2 / 4) 0)))∧Below W.heap.size W w':=fun W h=>aLk x (x.f2 / 4) 0 W ho (by omega) (by omega) (hC0.below h)
 have hby:=fun (W:World)=>aCs x.f2 W (by omega) (by omega)
 have hsb:∀ j,j < 32→0≤aCP x (x.f2 / 4) 0 j∧aCP x (x.f2 / 4) 0 j < 256:=fun j _=>aIP ..
 have hsm:∀ (W:World) g C B,Below W0.heap.size W0 W→W.ownsRow B 5 1 (.slice (some ⟨g,0,none⟩) 40 C) 40 (bl (sd8 (aCP x (x.f2 / 4) 0) x.f2) 40)→Calls Tryz.prog 53 #[.slice (some ⟨g,0,none⟩) 40 C] W fun e w'=>e=.returned (.agg (vs .u8 32 (prS x)))∧Below W.heap.size W w':=fun W g C B h1 ho=>by
  obtain ⟨q1,q2,q3,q4,q5⟩:=aBG ho
  exact aD4 KW (sd8 (aCP x (x.f2 / 4) 0) x.f2) (some ⟨g,0,none⟩) 40 C W (hC0.below h1) (.inr (.inr ⟨g,0,rfl,q3,q4,q2,fun j hj=>by rw [Nat.zero_add];exact q5 j hj⟩)) (fun j hj=>aLu hsb _ _) (by omega)
 have hpb:∀ j,j < 32→0≤prS x j∧prS x j < 256:=fun j _=>aBU ..
 have hdw:∀ (W:World) (v:Value) B,Below W0.heap.size W0 W→W.ownsRow B 22 1 v (acE x (x.f2 / 4)).length (iv6 (acE x (x.f2 / 4)))→Calls Tryz.prog 97 #[.agg (cel (aA0 x)),v,.agg (vs .u8 32 (prS x)),.int .i64 1] W fun e' w'=>∃ a c,e'=.returned (.tuple #[.slice a (prL x).length c,.int .i64 (prE x)])∧Nml w' a (prL x)∧Below W.heap.size W w':=fun W v B h hv=>by
  obtain ⟨a,c,rfl,hn⟩:=aCd hv
  exact aL9 x a c (acE x (x.f2 / 4)) (prS x) 1 W (hx0.below h) hn (fun v hv=>by have:=(aJO _ _ _ _).1 hv;exact ⟨this.1,this.2.1⟩) hlen hpb (by omega) (by omega) (hC0.below h)
 have hd1:=aKi x.f11.z (acE x (x.f2 / 4)) (prS x) 1
 have hV:prV x=(prL x).getD 0 0:=rfl
 rw [show dwE x.f11.z (acE x (x.f2 / 4)) (prS x) 1=prE x from rfl,show dwL x.f11.z (acE x (x.f2 / 4)) (prS x) 1=prL x from rfl] at hd1
 obtain ⟨SD,eSD⟩:∃ SD,aCP x (x.f2 / 4) 0=SD:=⟨_,rfl⟩
 rw [eSD] at hse hsm
 generalize prL x=PL at hdw hd1 hV
 generalize prE x=PE at hdw hd1 ⊢
 generalize prV x=PV at hV ⊢
 generalize prS x=PS at hsm hdw
 generalize acE x (x.f2 / 4)=L at hac hdw hd1
 have he:0≤x.f2 / 4∧x.f2 / 4 < 274877906944:=by omega
 generalize x.f2 / 4=E at hep hac hse he
 generalize x.f2=T at hc2 hby hsm
 have HB:=hid hB0
 have HW:=hid hW0
 have HLD:=hid hld
 have HC2:=hid hc2
 have HEP:=hid hep
 have HAC0:=hid hac
 have HSE:=hid hse
 have HBY:=hid hby
 have HSM:=hid hsm
 have HDW0:=hid hdw
 have HD1:=hid (And.intro hd1 hV)
 have l0:=hld W0 (Below.refl _ _)
 clear hB0 hW0 hld hc2 hep hac hse hby hsm hdw hd1 hV hx hx0 ho hC hC0 r0 hsl hlen hsb hpb eSD
 go_enter Tryz.func58,Tryz.ntmps58
 go_upto_region 1 with fail
 rw [HW.out]
 clear HW
 go_upto_region 2 with (go_at_call 22;refine HEP.out.mono ?_;rintro e' w1 ⟨rfl,hb1⟩)
 have l1:=HLD.out w1 hb1
 have zr:=aAj
 have v3:=fun W=>aBc W (fun _=>0) SD
 go_upto_region 3 with (go_at_call 96;refine (HSE.out _ hb1).mono ?_;rintro e' w2 ⟨rfl,hb2⟩)
 have hB2:=hb1.trans (hb2.mono hb1.size)
 obtain ⟨W2,hW2⟩:∃ W,w2.alloc (.cells (vs .u8 32 SD) 24)=W:=⟨_,rfl⟩
 rw [hW2]
 have rs:W2.heap[w2.heap.size]?=some (.cells (vs .u8 32 SD) 24):=by rw [←hW2];exact aA2 rfl
 have hE2:Below w2.heap.size w2 W2:=by rw [←hW2];exact (Below.refl _ _).alloc (Nat.le_refl _) _
 have hF2:Below W0.heap.size W0 W2:=hB2.trans (hE2.mono hB2.size)
 obtain ⟨y1,ey1⟩:∃ y,w2.heap.size=y:=⟨_,rfl⟩
 rw [ey1] at rs ⊢
 have c2:=HC2.out W2 hF2
 have z8:=aDn
 have v8:=fun W=>aBY W (fun _=>0) (nmB T)
 have RS:=hid rs
 have HF2:=hid hF2
 clear rs hF2 hE2 hB2 hb2 hb1 l0 l1 hW2 ey1 zr v3
 go_upto_region 4 with (go_at_call 90;refine (HBY.out _).mono ?_;rintro e' w3 ⟨rfl,hb3⟩)
 obtain ⟨W3,hW3⟩:∃ W,w3.alloc (.cells (vs .u8 8 (nmB T)) 135)=W:=⟨_,rfl⟩
 rw [hW3]
 have rb:W3.heap[w3.heap.size]?=some (.cells (vs .u8 8 (nmB T)) 135):=by rw [←hW3];exact aA2 rfl
 have hE3:Below w3.heap.size w3 W3:=by rw [←hW3];exact (Below.refl _ _).alloc (Nat.le_refl _) _
 have hG3:Below W2.heap.size W2 W3:=hb3.trans (hE3.mono hb3.size)
 have hF3:Below W0.heap.size W0 W3:=HF2.out.trans (hG3.mono HF2.out.size)
 have rs:=(hG3.block _ (Array.getElem?_eq_some_iff.1 RS.out).1).trans RS.out
 obtain ⟨y2,ey2⟩:∃ y,w3.heap.size=y:=⟨_,rfl⟩
 rw [ey2] at rb ⊢
 have hld3:∀ W,Below W3.heap.size W3 W→(aCc ⟨w.heap.size,0,none⟩).run Tryz.prog W=.ok (.agg (cel (aA0 x))) W:=fun W h=>HLD.out W (hF3.trans (h.mono hF3.size))
 have hap1:∀ (W:World) e,Below W3.heap.size W3 W→W.ownsRow W3.heap.size 5 1 (.slice (some ⟨e,0,none⟩) 0 0) 0 (bl (sd8 SD T) 0)→∀ ty,∃g C w',(aDO ty (.slice (some ⟨e,0,none⟩) 0 0) (.slice (some ⟨y1,0,none⟩) 32 32)).run Tryz.prog W=.ok (.slice (some ⟨g,0,none⟩) 32 C) w'∧w'.ownsRow W3.heap.size 5 1 (.slice (some ⟨g,0,none⟩) 32 C) 32 (bl (sd8 SD T) 32)∧Below W3.heap.size W3 w'∧∀ B' u l,W.ownsRow B' 22 1 u l.length (iv6 l)→w'.ownsRow B' 22 1 u l.length (iv6 l):=fun W e hW ho ty=>by
  obtain ⟨g,C,w',h1,h2,h3,h4⟩:=aJS W W3.heap.size (.slice (some ⟨e,0,none⟩) 0 0) 0 32 32 y1 (sd8 SD T) SD ho (fun j hj=>aA8 ((hW.block _ (Array.getElem?_eq_some_iff.1 rs).1).trans rs) j (by omega)) (fun j hj=>by unfold sd8;rw [Nat.zero_add,if_pos hj]) hW.size (by omega) (by omega) (by omega) ty
  rw [Nat.zero_add] at h1 h2
  exact ⟨g,C,w',h1,h2,hW.trans h3,h4⟩
 have hap2:∀ (W:World) g C,Below W3.heap.size W3 W→W.ownsRow W3.heap.size 5 1 (.slice (some ⟨g,0,none⟩) 32 C) 32 (bl (sd8 SD T) 32)→∀ ty,∃g' C' w',(aDO ty (.slice (some ⟨g,0,none⟩) 32 C) (.slice (some ⟨y2,0,none⟩) 8 8)).run Tryz.prog W=.ok (.slice (some ⟨g',0,none⟩) 40 C') w'∧w'.ownsRow W3.heap.size 5 1 (.slice (some ⟨g',0,none⟩) 40 C') 40 (bl (sd8 SD T) 40)∧Below W3.heap.size W3 w'∧∀ B' u l,W.ownsRow B' 22 1 u l.length (iv6 l)→w'.ownsRow B' 22 1 u l.length (iv6 l):=fun W g C hW ho ty=>by
  obtain ⟨g',C',w',h1,h2,h3,h4⟩:=aJS W W3.heap.size _ 32 8 8 y2 (sd8 SD T) (nmB T) ho (fun j hj=>aA8 ((hW.block _ (Array.getElem?_eq_some_iff.1 rb).1).trans rb) j hj) (fun j hj=>by unfold sd8;rw [if_neg (by omega),show 32+j - 32=j by omega]) hW.size (by omega) (by omega) (by omega) ty
  exact ⟨g',C',w',h1,h2,hW.trans h3,h4⟩
 have hsm:=fun (W:World) g C (h:Below W3.heap.size W3 W) (ho:W.ownsRow W3.heap.size 5 1 (.slice (some ⟨g,0,none⟩) 40 C) 40 (bl (sd8 SD T) 40))=>HSM.out W g C _ (hF3.trans (h.mono hF3.size)) ho
 have hac:=fun (W:World) (h:Below W3.heap.size W3 W)=>HAC0.out W (hF3.trans (h.mono hF3.size))
 have hdw:=fun (W:World) (v:Value) (h:Below W3.heap.size W3 W) {B:Nat} (hv:W.ownsRow B 22 1 v L.length (iv6 L))=>HDW0.out W v B (hF3.trans (h.mono hF3.size)) hv
 have hdr:Below W3.heap.size W3 W3.drew:=(Below.refl _ _).drew
 generalize sd8 SD T=SQ at hap1 hap2 hsm
 have HLD:=hid hld3
 have HAP1:=hid hap1
 have HAP2:=hid hap2
 have HSUM:=hid hsm
 have HAC:=hid hac
 have HDW:=hid hdw
 have HDR:=hid hdr
 have HF3:=hid hF3
 clear hld3 hap1 hap2 hsm hac hdw hdr hF3 rb rs hE3 hG3 hb3 ey2 hW3 z8 v8 c2 HF2 RS HSE HBY HSM HAC0 HDW0 HEP HC2
 go_cut [7,8] from 9 (fun v u wx=>∃ a c,v=.slice a PL.length c∧u=.int .i64 PE∧Nml wx a PL∧Below W3.heap.size W3 wx)
 case first =>
  refine wp_region_noPanic ?_
  refine wp_region_held_drew (S:=fun W=>Below W3.heap.size W3 W) (by kernel_rfl) (HDR.out) (fun hHeld=>?_)
  refine tk 0 (v:=?v501) ?y501 hHeld ?r501
  case y501=>intro w hSw;have ld:=HLD.out _ hSw;go_simp;try with_reducible rfl
  refine tk 1 (v:=?v502) ?y502 hHeld ?r502
  case y502=>intro w hSw;have ld:=HLD.out _ hSw;go_simp;try with_reducible rfl
  refine tk 2 (v:=?v503) ?y503 hHeld ?r503
  case y503=>intro w hSw;go_simp;try with_reducible rfl
  refine tk 5 (v:=?v504) ?y504 hHeld ?r504
  case y504=>intro w hSw;go_simp;try with_reducible rfl
  refine tk 7 (v:=?v505) ?y505 hHeld ?r505
  case y505=>intro w hSw;go_simp;try with_reducible rfl
  try simp only [Act.put,z_1,z_2,z_3,z_4,z_5,z_6,z_7]
  refine wpAnyH_ready (rs:=[3,4]) (by kernel_rfl) (by simp) ?_
  refine AllReadyH.cons rfl (fun K hK=>?_) (AllReadyH.cons rfl (fun K hK=>?_) AllReadyH.nil)
  ·go_simp
   refine (HAC.out W3.drew HDR.out).mono ?_
   rintro e' x1 ⟨va,rfl,hn1,hd1⟩
   dsimp only
   have hc1:Below W3.heap.size W3 x1:=(HDR.out).trans (hd1.mono (HDR.out).size)
   refine hK.out _ _ (hc1) (fun hHeld=>?_)
   clear hK K
   try simp only [Act.put,z_1,z_2,z_3,z_4,z_5,z_6,z_7]
   refine wpAnyH_ready (rs:=[4]) (by kernel_rfl) (by simp) ?_
   refine AllReadyH.cons rfl (fun K hK=>?_) AllReadyH.nil
   go_simp
   have hc2:Below W3.heap.size W3 (x1.alloc (.cells #[] 5)):=(hc1).alloc (hc1).size _
   have ho2:(x1.alloc (.cells #[] 5)).ownsRow W3.heap.size 5 1 (.slice (some ⟨x1.heap.size,0,none⟩) 0 0) 0 (bl SQ 0):=by
    rw [show x1.heap.size=x1.heap.size by simp]
    exact World.ownsRow_made _ #[] 0 (hc1).size (Nat.zero_le _) rfl
   have hn2:=own_below hn1 ((Below.refl _ _).alloc (Nat.le_refl _) (.cells #[] 5))
   refine hK.out _ _ (hc2) (fun hHeld=>?_)
   clear hK K
   try simp only [Act.put,z_1,z_2,z_3,z_4,z_5,z_6,z_7]
   refine wpAnyH_ready (rs:=[6]) (by kernel_rfl) (by simp) ?_
   refine AllReadyH.cons rfl (fun K hK=>?_) AllReadyH.nil
   obtain ⟨g3,C3,x3,hap3,ho3,hc3,hr3⟩:=HAP1.out (x1.alloc (.cells #[] 5)) _ hc2 ho2 39
   refine aAo _ _ rfl _ _ _ _ rfl rfl hap3 ?_
   have hn3:=hr3 _ _ _ hn2
   refine hK.out _ _ (hc3) (fun hHeld=>?_)
   clear hK K
   try simp only [Act.put,z_1,z_2,z_3,z_4,z_5,z_6,z_7]
   refine wpAnyH_ready (rs:=[8]) (by kernel_rfl) (by simp) ?_
   refine AllReadyH.cons rfl (fun K hK=>?_) AllReadyH.nil
   obtain ⟨g4,C4,x4,hap4,ho4,hc4,hr4⟩:=HAP2.out x3 _ _ hc3 ho3 39
   refine aAo _ _ rfl _ _ _ _ rfl rfl hap4 ?_
   have hn4:=hr4 _ _ _ hn3
   refine hK.out _ _ (hc4) (fun hHeld=>?_)
   clear hK K
   try simp only [Act.put,z_1,z_2,z_3,z_4,z_5,z_6,z_7]
   refine wpAnyH_ready (rs:=[9]) (by kernel_rfl) (by simp) ?_
   refine AllReadyH.cons rfl (fun K hK=>?_) AllReadyH.nil
   go_simp
   refine (HSUM.out x4 _ _ hc4 ho4).mono ?_
   rintro e' x5 ⟨rfl,hd5⟩
   dsimp only
   have hc5:Below W3.heap.size W3 x5:=(hc4).trans (hd5.mono (hc4).size)
   have hn5:=own_below hn4 hd5
   refine hK.out _ _ (hc5) (fun hHeld=>?_)
   clear hK K
   try simp only [Act.put,z_1,z_2,z_3,z_4,z_5,z_6,z_7]
   refine wpAnyH_ready (rs:=[10]) (by kernel_rfl) (by simp) ?_
   refine AllReadyH.cons rfl (fun K hK=>?_) AllReadyH.nil
   go_simp
   refine (HDW.out x5 va hc5 hn5).mono ?_
   rintro e' x6 ⟨a4,c4,rfl,hn4,hd6⟩
   dsimp only
   have hc6:Below W3.heap.size W3 x6:=(hc5).trans (hd6.mono (hc5).size)
   refine hK.out _ _ (hc6) (fun hHeld=>?_)
   clear hK K
   try simp only [Act.put,z_1,z_2,z_3,z_4,z_5,z_6,z_7]
   refine tk 11 (v:=?v506) ?y506 hHeld ?r506
   case y506=>intro w hSw;go_simp;try with_reducible rfl
   refine tk 12 (v:=?v507) ?y507 hHeld ?r507
   case y507=>intro w hSw;go_simp;try with_reducible rfl
   refine tk 13 (v:=?v508) ?y508 hHeld ?r508
   case y508=>intro w hSw;go_simp;try with_reducible rfl
   refine tk 14 (v:=?v509) ?y509 hHeld ?r509
   case y509=>intro w hSw;go_simp;try with_reducible rfl
   refine tk 15 (v:=?v510) ?y510 hHeld ?r510
   case y510=>intro w hSw;go_simp;try with_reducible rfl
   try simp only [Act.put,z_1,z_2,z_3,z_4,z_5,z_6,z_7]
   refine wpAnyH_done (by kernel_rfl) ?_ _
   refine NoPanic.normal ?_
   go_wp2
   go_meet
   exact ⟨a4,c4,rfl,rfl,hn4,hc6⟩
  ·go_simp
   have hc1:Below W3.heap.size W3 (W3.drew.alloc (.cells #[] 5)):=(HDR.out).alloc (HDR.out).size _
   have ho1:(W3.drew.alloc (.cells #[] 5)).ownsRow W3.heap.size 5 1 (.slice (some ⟨W3.heap.size,0,none⟩) 0 0) 0 (bl SQ 0):=by
    rw [show W3.heap.size=W3.drew.heap.size by simp]
    exact World.ownsRow_made _ #[] 0 (HDR.out).size (Nat.zero_le _) rfl
   refine hK.out _ _ (hc1) (fun hHeld=>?_)
   clear hK K
   try simp only [Act.put,z_1,z_2,z_3,z_4,z_5,z_6,z_7]
   refine wpAnyH_ready (rs:=[3]) (by kernel_rfl) (by simp) ?_
   refine AllReadyH.cons rfl (fun K hK=>?_) AllReadyH.nil
   go_simp
   refine (HAC.out (W3.drew.alloc (.cells #[] 5)) hc1).mono ?_
   rintro e' x2 ⟨va,rfl,hn2,hd2⟩
   dsimp only
   have hc2:Below W3.heap.size W3 x2:=(hc1).trans (hd2.mono (hc1).size)
   have ho2:=own_below ho1 hd2
   refine hK.out _ _ (hc2) (fun hHeld=>?_)
   clear hK K
   try simp only [Act.put,z_1,z_2,z_3,z_4,z_5,z_6,z_7]
   refine wpAnyH_ready (rs:=[6]) (by kernel_rfl) (by simp) ?_
   refine AllReadyH.cons rfl (fun K hK=>?_) AllReadyH.nil
   obtain ⟨g3,C3,x3,hap3,ho3,hc3,hr3⟩:=HAP1.out x2 _ hc2 ho2 39
   refine aAo _ _ rfl _ _ _ _ rfl rfl hap3 ?_
   have hn3:=hr3 _ _ _ hn2
   refine hK.out _ _ (hc3) (fun hHeld=>?_)
   clear hK K
   try simp only [Act.put,z_1,z_2,z_3,z_4,z_5,z_6,z_7]
   refine wpAnyH_ready (rs:=[8]) (by kernel_rfl) (by simp) ?_
   refine AllReadyH.cons rfl (fun K hK=>?_) AllReadyH.nil
   obtain ⟨g4,C4,x4,hap4,ho4,hc4,hr4⟩:=HAP2.out x3 _ _ hc3 ho3 39
   refine aAo _ _ rfl _ _ _ _ rfl rfl hap4 ?_
   have hn4:=hr4 _ _ _ hn3
   refine hK.out _ _ (hc4) (fun hHeld=>?_)
   clear hK K
   try simp only [Act.put,z_1,z_2,z_3,z_4,z_5,z_6,z_7]
   refine wpAnyH_ready (rs:=[9]) (by kernel_rfl) (by simp) ?_
   refine AllReadyH.cons rfl (fun K hK=>?_) AllReadyH.nil
   go_simp
   refine (HSUM.out x4 _ _ hc4 ho4).mono ?_
   rintro e' x5 ⟨rfl,hd5⟩
   dsimp only
   have hc5:Below W3.heap.size W3 x5:=(hc4).trans (hd5.mono (hc4).size)
   have hn5:=own_below hn4 hd5
   refine hK.out _ _ (hc5) (fun hHeld=>?_)
   clear hK K
   try simp only [Act.put,z_1,z_2,z_3,z_4,z_5,z_6,z_7]
   refine wpAnyH_ready (rs:=[10]) (by kernel_rfl) (by simp) ?_
   refine AllReadyH.cons rfl (fun K hK=>?_) AllReadyH.nil
   go_simp
   refine (HDW.out x5 va hc5 hn5).mono ?_
   rintro e' x6 ⟨a4,c4,rfl,hn4,hd6⟩
   dsimp only
   have hc6:Below W3.heap.size W3 x6:=(hc5).trans (hd6.mono (hc5).size)
   refine hK.out _ _ (hc6) (fun hHeld=>?_)
   clear hK K
   try simp only [Act.put,z_1,z_2,z_3,z_4,z_5,z_6,z_7]
   refine tk 11 (v:=?v511) ?y511 hHeld ?r511
   case y511=>intro w hSw;go_simp;try with_reducible rfl
   refine tk 12 (v:=?v512) ?y512 hHeld ?r512
   case y512=>intro w hSw;go_simp;try with_reducible rfl
   refine tk 13 (v:=?v513) ?y513 hHeld ?r513
   case y513=>intro w hSw;go_simp;try with_reducible rfl
   refine tk 14 (v:=?v514) ?y514 hHeld ?r514
   case y514=>intro w hSw;go_simp;try with_reducible rfl
   refine tk 15 (v:=?v515) ?y515 hHeld ?r515
   case y515=>intro w hSw;go_simp;try with_reducible rfl
   try simp only [Act.put,z_1,z_2,z_3,z_4,z_5,z_6,z_7]
   refine wpAnyH_done (by kernel_rfl) ?_ _
   refine NoPanic.normal ?_
   go_wp2
   go_meet
   exact ⟨a4,c4,rfl,rfl,hn4,hc6⟩
 case rest =>
  clear HLD HAP1 HAP2 HSUM HAC HDW HDR
  obtain ⟨a,c,rfl,rfl,hn,hb⟩:=hcut
  have hE:Below w.heap.size w wc:=HB.out.trans ((HF3.out.trans (hb.mono HF3.out.size)).mono HB.out.size)
  obtain ⟨h1,hV⟩:=HD1.out
  rcases h1 with ⟨e0,e1,_⟩ | ⟨e0,e1⟩
  ·subst e0
   rcases hn with e2 | ⟨b,o,ea,_,hc⟩
   ·omega
   subst ea
   have c0:wc.cell? ⟨b,o,none⟩=some (.int .u64 PV):=by
    have:=hc 0 (by omega)
    rw [Nat.add_zero] at this
    rw [hV]
    exact this
   have HE:=hid hE
   rw [e1]
   clear hc hV hE HF3 HB HD1 hb e1
   go_wp2
   go_ret2
   exact ⟨rfl,HE.out⟩
  ·subst e0
   rw [e1] at hV
   have HV:=hid hV
   have HE:=hid hE
   clear hV hE HF3 HB HD1 hb hn
   go_wp2
   go_ret2
   exact ⟨by rw [HV.out];rfl,HE.out⟩
end Go.Proofs.YtdjplhibmomajaaGreatDoor
