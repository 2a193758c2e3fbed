/- A part. -/
import Derived.Test.YtdjplhibmomajaaGreatDoorQI
import Derived.Test.YtdjplhibmomajaaGreatDoorQG
import Derived.BigQuiet
import Derived.Deep.QuietTactic
namespace Go.Proofs.YtdjplhibmomajaaGreatDoor
open Go.RowKit
set_option linter.unusedVariables false
set_option linter.unusedSimpArgs false
set_option maxRecDepth 20000
attribute [local go_sem ↓] aAq aAr aAz aAi aAl aAw aAu aAt aBJ
theorem aHp (W : World) (B : Nat) (v : Value) (n k cp b : Nat) (m c : Nat → Int) (ho : W.ownsRow B 5 1 v n (bl m n)) (hb : ∀ j, j < k → W.cell? ⟨b, j, none⟩ = some (.int .u8 (c j))) (hm : ∀ j, j < k → m (n + j) = c j) (hB : B ≤ W.heap.size) (hn : n ≤ 64) (hk : k ≤ 64) (hk0 : 0 < k) (ty : TypeId) :
    ∃ g' C' w',(aDO ty v (.slice (some ⟨b,0,none⟩) k cp)).run Tryz.prog W=.ok (.slice (some ⟨g',0,none⟩) (n+k) C') w'∧w'.ownsRow B 5 1 (.slice (some ⟨g',0,none⟩) (n+k) C') (n+k) (bl m (n+k))∧Below B W w'∧∀ (y:Nat) (D:Array Value) (t:TypeId),W.heap[y]?=some (.cells D t)→5≠t→w'.heap[y]?=some (.cells D t):=by
 obtain ⟨i,hi,hz0,hz1,hz2⟩:=info_parts aDb
 obtain ⟨v',w',hr,ho',hg,_⟩:=run_append_own_at (P:=Tryz.prog) W B 39 ty 5 i (.int .u8 0) 1 1 Tryz.underlying39 hi hz0 hz1 hz2 rfl (by decide) v n (bl m n) ho ⟨b,0,none⟩ k cp (bl c k) (by rw [aAV,Nat.mul_one])
  (fun j u hj=>by
   obtain ⟨h1,rfl⟩:=aBD c k j u hj
   rw [addr_add,Nat.zero_add]
   exact hb j h1) (aC0 c k) (by unfold maxLen;omega) (by omega) hB
 rw [aEn m c n k hm] at ho'
 obtain ⟨g',C',rfl⟩:=aC3 ho' (by omega)
 refine ⟨g',C',w',hr,ho',below_grown (Below.refl _ _) ho hB hg,fun y D t hy ht=>(hg.block y (Array.getElem?_eq_some_iff.1 hy).1 (fun e=>?_)).trans hy⟩
 rcases ho.2 with ⟨rfl,_⟩ | ⟨g,cap,cur,rfl,_,h3,_⟩
 ·cases e
 ·cases e
  rw [hy] at h3
  cases h3
  exact ht rfl
theorem aAe {W:World} {y:Nat} {o:Obj} (h:W.heap[y]?=some o):y < W.heap.size:=(Array.getElem?_eq_some_iff.1 h).1
def DwA (z:Nat→aA5) (L:List Int) (s:Nat→Int) (want:Nat) (w:World) (e':Ending) (w':World):Prop :=
 ∃ a c,e'=.returned (.tuple #[.slice a (dwL z L s want).length c,.int .i64 (dwE z L s want)])∧Nml w' a (dwL z L s want)∧Below w.heap.size w w'
set_option maxHeartbeats 2000000 in
theorem aL9 (x : aA1) (a : Option Addr) (cap : Nat) (L : List Int) (s : Nat → Int) (want : Nat) (w : World) (hx : Lk w x) (hL : Nml w a L) (hLb : ∀ v ∈ L, 0 ≤ v ∧ v < (x.f11.n : Int)) (hlen : L.length ≤ 65536) (hs : ∀ j, j < 32 → 0 ≤ s j ∧ s j < 256) (w1 : 1 ≤ want) (w2 : want ≤ 1000) (hC : Tab w 1 64 KW) :
    Calls Tryz.prog 97 #[.agg (cel (aA0 x)),.slice a L.length cap,.agg (vs .u8 32 s),.int .i64 (want:Int)] w (DwA x.f11.z L s want w):=by
 obtain ⟨W0,hW0⟩:∃ W,(w.alloc (.cells (cel (aA0 x)) 49)).alloc (.cells (vs .u8 32 s) 24)=W:=⟨_,rfl⟩
 have r0:W0.heap[w.heap.size]?=some (.cells (cel (aA0 x)) 49):=by rw [←hW0];exact (aAc (by simp)).trans (aA2 rfl)
 have r1:W0.heap[w.heap.size+1]?=some (.cells (vs .u8 32 s) 24):=by rw [←hW0];exact aA2 (by simp)
 have hB0:Below w.heap.size w W0:=by rw [←hW0];exact ((Below.refl _ _).alloc (Nat.le_refl _) _).alloc (by simp) _
 have z1:w.heap.size+1 < W0.heap.size:=(Array.getElem?_eq_some_iff.1 r1).1
 have hC0:=hC.below hB0
 have hL0:N64 W0 a L.length (fun j=>L.getD j 0):=Z.Nms.below hL hB0
 have hlr:∀ W:World,Below W0.heap.size W0 W→(aDZ ⟨w.heap.size+1,0,none⟩).run Tryz.prog W=.ok (.agg (vs .u8 32 s)) W:=fun W h=>aAU ((h.block _ z1).trans r1)
 have hrr:∀ W:World,Below W0.heap.size W0 W→W.heap[w.heap.size+1]?=some (.cells (vs .u8 32 s) 24):=fun W h=>(h.block _ z1).trans r1
 have hcs:∀ W:World,Below W0.heap.size W0 W→W.cell? ⟨w.heap.size,721,none⟩=some (.slice x.f11.a x.f11.n x.f11.c):=fun W h=>aFv ((h.block _ (by omega)).trans r0)
 have hel:=(hx.below hB0).el
 have hef:=hx.ef
 have hnb:=hx.nb
 have hpl:∀ (i:Nat) (W:World),0 < L.length→Below W0.heap.size W0 W→Calls Tryz.prog 122 #[.int .u64 ((i % L.length:Nat):Int),.int .u64 (L.length:Int),.agg (vs .u8 32 s)] W fun e w'=>e=.returned (.tuple #[.int .u64 (plV s L.length 6 ((i % L.length:Nat):Int)),.int .i64 0])∧Below W.heap.size W w':=fun i W h0 hW=>aLi s _ _ W hs (by omega) (by have:=Nat.mod_lt i h0;omega) (by omega) (hC0.below hW)
 have hcd:∀ i,0 < L.length→∃ q v:Nat,plV s L.length 6 ((i % L.length:Nat):Int)=(q:Int)∧q < L.length∧L.getD q 0=(v:Int)∧v < x.f11.n∧cdV L s i=(v:Int):=fun i h0=>by
  have hm:=Nat.mod_lt i h0
  obtain ⟨p0,p1⟩:=aGT s (i:=((i % L.length:Nat):Int)) (n:=(L.length:Int)) (by omega) (by omega) 6
  have hq:(plV s L.length 6 ((i % L.length:Nat):Int)).toNat < L.length:=by omega
  obtain ⟨v0,v1⟩:=hLb _ (aFX L _ hq)
  exact ⟨(plV s L.length 6 ((i % L.length:Nat):Int)).toNat,(L.getD (plV s L.length 6 ((i % L.length:Nat):Int)).toNat 0).toNat,by omega,hq,by omega,by omega,by show L.getD _ 0=_;omega⟩
 have hby:=fun (q:Int) (W:World) (h0:0≤q) (h1:q≤100)=>aCs q W h0 (by omega)
 have hsum:∀ (q:Int) (W:World) g C B,Below W0.heap.size W0 W→W.ownsRow B 5 1 (.slice (some ⟨g,0,none⟩) 40 C) 40 (bl (sd8 s q) 40)→Calls Tryz.prog 53 #[.slice (some ⟨g,0,none⟩) 40 C] W fun e w'=>e=.returned (.agg (vs .u8 32 (aCH KW HW (sd8 s q) 40)))∧Below W.heap.size W w':=fun q W g C B h1 ho=>by
  obtain ⟨q1,q2,q3,q4,q5⟩:=aBG ho
  exact aD4 KW (sd8 s q) (some ⟨g,0,none⟩) 40 C W (hC0.below h1) (.inr (.inr ⟨g,0,rfl,q3,q4,q2,fun j hj=>by rw [Nat.zero_add];exact q5 j hj⟩)) (fun j hj=>aLu hs _ _) (by omega)
 obtain ⟨n,hn⟩:∃ n,L.length=n:=⟨_,rfl⟩
 rw [hn] at hL0 hpl hcd hlen ⊢
 by_cases h0:n=0
 ·obtain ⟨e1,e2⟩:=aFU (z:=x.f11.z) (s:=s) (want:=want) (.inl (List.length_eq_zero_iff.1 (hn.trans h0)))
  unfold DwA
  rw [e1,e2]
  subst h0
  have HB:=hid hB0
  have HW:=hid hW0
  clear hpl hcd hsum hby hel hef hcs hrr hlr hL0 hC0 r0 r1 hB0 hW0 hL hx hC hLb hs e1 e2 hn
  go_enter Tryz.func97,Tryz.ntmps97
  go_upto_region 1 with fail
  rw [HW.out]
  clear HW
  go_wp2
  go_loopw [11] (fun c wr=>c=.int .u64 0∧wr=W0) (fun _ _=>0)
  case atStart=>exact ⟨rfl,rfl⟩
  case round =>
   obtain ⟨rfl,rfl⟩:=hrel
   go_wp2
   go_ret2
   exact ⟨none,0,rfl,.inl rfl,HB.out⟩
 have hLn:L≠[]:=fun e=>by rw [e] at hn;exact h0 hn.symm
 have hhit:∀ i,i≤256→(drL x.f11.z L s i).length=want→∀ (W:World) a c,Nml W a (drL x.f11.z L s i)→Below w.heap.size w W→DwA x.f11.z L s want w (.returned (.tuple #[.slice a (drL x.f11.z L s i).length c,.int .i64 0])) W:=fun i hi hq W a c h1 h2=>by
  obtain ⟨e1,e2⟩:=aKh (z:=x.f11.z) hLn hi hq
  unfold DwA
  rw [e1,e2]
  exact ⟨a,c,rfl,h1,h2⟩
 have hmis:(drL x.f11.z L s 256).length < want→∀ W:World,Below w.heap.size w W→DwA x.f11.z L s want w (.returned (.tuple #[.slice none 0 0,.int .i64 7])) W:=fun hq W h2=>by
  obtain ⟨e1,e2⟩:=aFU (z:=x.f11.z) (L:=L) (s:=s) (want:=want) (.inr hq)
  unfold DwA
  rw [e1,e2]
  exact ⟨none,0,rfl,.inl rfl,h2⟩
 have htk:∀ i,tkB x.f11.z L s i=decide (32000000000*aGJ s i≤(x.f11.z (cdV L s i).toNat).f2*255):=fun _=>rfl
 have hst:∀ i,drL x.f11.z L s (i+1)=if tkB x.f11.z L s i=true then drL x.f11.z L s i++[cdV L s i] else drL x.f11.z L s i:=fun _=>rfl
 have hll:=aKg x.f11.z L s
 have hd0:drL x.f11.z L s 0=[]:=rfl
 have hlo:∀ i:Nat,aCH KW HW (sd8 s ((i:Int) / 32)) 40 (i % 32)=aGJ s i:=fun i=>rfl
 have hlb:=aG1 s
 have hpd:0 < n:=by omega
 generalize x.f11.a=A at hcs hel
 generalize x.f11.n=nV at hcs hel hef hnb hcd
 generalize x.f11.c=C at hcs
 generalize x.f11.z=z at hel hef hhit hmis htk hst hll hd0 ⊢
 generalize drL z L s=Dr at hhit hmis hst hll hd0
 have HB:=hid hB0
 have HW:=hid hW0
 have HLR:=hid hlr
 have HRR:=hid hrr
 have HCS:=hid hcs
 have HEL:=hid hel
 have HEF:=hid hef
 have HPL:=hid hpl
 have HCD:=hid hcd
 have HBY:=hid hby
 have HSU:=hid hsum
 have HHI:=hid hhit
 have HMI:=hid hmis
 have HTK:=hid htk
 have HST:=hid hst
 have HLL:=hid hll
 have HLO:=hid hlo
 have HLB:=hid hlb
 have HD0:=hid hd0
 have HL0:=hid hL0
 clear hpl hcd hsum hby hel hef hcs hrr hlr hL0 hC0 r0 r1 hB0 hW0 hL hx hC hLb hhit hmis htk hst hll hlo hlb hd0 hn hLn
 have nw:IntKind.u64.wrap (n:Int)=(n:Int):=by rw [IntKind.wrap_u64];omega
 have np:(0:Int) < (n:Int):=by omega
 go_enter Tryz.func97,Tryz.ntmps97
 go_upto_region 1 with fail
 rw [HW.out]
 clear HW
 go_wp2
 go_loopw [10,11] (fun v c wr=>∃ (i:Nat) (v':Value),i≤256∧v=v'∧c=.int .u64 i∧wr.ownsRow W0.heap.size 22 1 v' (Dr i).length (iv6 (Dr i))∧(Dr i).length < want∧Below W0.heap.size W0 wr) (fun _ c _=>256 - (intOf c).toNat)
 case atStart=>exact ⟨0,_,by omega,rfl,rfl,by rw [HD0.out];exact World.ownsRow_nil _ _ _ _,by rw [HD0.out];exact w1,Below.refl _ _⟩
 case round =>
  obtain ⟨i,v,hi,ev,rfl,ho,hlt,hw⟩:=hrel
  obtain rfl:=ev.symm
  clear ev
  by_cases hik:i < 256
  ·have i1:(i:Int) < 256:=by omega
   have i2:(0:Int)≤(i:Int):=by omega
   obtain ⟨q,V,eq1,hq,eq2,hV,eq3⟩:=HCD.out i hpd
   have hp:=fun W h=>HPL.out i W hpd h
   have er:(i:Int).tmod (n:Int)=((i % n:Nat):Int):=by
    rw [Int.tmod_eq_emod_of_nonneg i2,←Int.natCast_emod]
   rw [eq1,←er] at hp
   have nz:((n:Int) == 0)=false:=by simp;omega
   have nz':¬ (n:Int)=0:=by omega
   have hBd:Below W0.heap.size W0 wr.drew:=hw.drew
   have hp1:=hp wr.drew hBd
   have hst:=HST.out i
   have htk:=HTK.out i
   have hlo:=HLO.out i
   have hlb:=HLB.out i
   rw [eq3] at hst htk
   rw [Int.toNat_natCast] at htk
   have hll:=HLL.out i
   have HP1:=hid hp1
   have HO:=hid ho
   have HLT:=hid hlt
   have HSTT:=hid hst
   have HTKK:=hid htk
   have HLOO:=hid hlo
   have HQ:=hid (And.intro hq (And.intro eq2 hV))
   clear hp hp1 ho hlt hst htk hlo eq1 eq2 eq3 er
   go_upto_region 5 with fail
   refine wp_region_noPanic ?_
   refine wp_region_held_drew (S:=fun W=>Below W0.heap.size W0 W) (by kernel_rfl) (hBd) (fun hHeld=>?_)
   refine tk 0 (v:=?v1) ?y1 hHeld ?r1
   case y1=>intro w hSw;go_simp;try with_reducible rfl
   refine tk 1 (v:=?v2) ?y2 hHeld ?r2
   case y2=>intro w hSw;go_simp;try with_reducible rfl
   refine tk 2 (v:=?v3) ?y3 hHeld ?r3
   case y3=>intro w hSw;go_simp;try with_reducible rfl
   refine tk 3 (v:=?v4) ?y4 hHeld ?r4
   case y4=>intro w hSw;go_simp;try with_reducible rfl
   refine tk 4 (v:=?v5) ?y5 hHeld ?r5
   case y5=>intro w hSw;go_simp;try with_reducible rfl
   refine tk 5 (v:=?v6) ?y6 hHeld ?r6
   case y6=>intro w hSw;go_simp;try with_reducible rfl
   refine tk 6 (v:=?v7) ?y7 hHeld ?r7
   case y7=>intro w hSw;go_simp;try with_reducible rfl
   refine tk 7 (v:=?v8) ?y8 hHeld ?r8
   case y8=>intro w hSw;go_simp;try with_reducible rfl
   refine tk 8 (v:=?v9) ?y9 hHeld ?r9
   case y9=>intro w hSw;have ld:=HLR.out w hSw;go_simp;try with_reducible rfl
   try simp only [Act.put,z_1,z_2,z_3,z_4,z_5,z_6,z_7]
   refine wpAnyH_ready (rs:=[9]) (by kernel_rfl) (by simp) ?_
   refine AllReadyH.cons rfl (fun K hK=>?_) AllReadyH.nil
   go_simp
   refine (HP1.out).mono ?_
   rintro e' w1 ⟨rfl,hb1⟩
   dsimp only
   have hB1:Below W0.heap.size W0 w1:=hBd.trans (hb1.mono hBd.size)
   refine hK.out _ _ (hB1) (fun hHeld=>?_)
   clear hK K
   try simp only [Act.put,z_1,z_2,z_3,z_4,z_5,z_6,z_7]
   refine tk 10 (v:=?v10) ?y10 hHeld ?r10
   case y10=>intro w hSw;go_simp;try with_reducible rfl
   refine tk 11 (v:=?v11) ?y11 hHeld ?r11
   case y11=>intro w hSw;go_simp;try with_reducible rfl
   refine tk 12 (v:=?v12) ?y12 hHeld ?r12
   case y12=>intro w hSw;go_simp;try with_reducible rfl
   refine tk 13 (v:=?v13) ?y13 hHeld ?r13
   case y13=>intro w hSw;go_simp;try with_reducible rfl
   refine tk 14 (v:=?v14) ?y14 hHeld ?r14
   case y14=>intro w hSw;go_simp;try with_reducible rfl
   try simp only [Act.put,z_1,z_2,z_3,z_4,z_5,z_6,z_7]
   refine wpAnyH_done (by kernel_rfl) ?_ _
   refine NoPanic.normal ?_
   have ho1:=own_below HO.out ((Below.refl _ _).drew.trans hb1)
   have hby:=HBY.out ((i:Int) / 32) w1 (by omega) (by omega)
   have hbw:Below wr.heap.size wr w1:=(Below.refl _ _).drew.trans hb1
   have HBYY:=hid hby
   have HO1:=hid ho1
   have HB1:=hid hB1
   have z8:=aDn
   have v8:=fun W=>aBY W (fun _=>0) (nmB ((i:Int) / 32))
   clear hby ho1 hb1 hbw HO HP1 hBd hw hHeld
   go_upto_region 7 with (go_at_call 90;refine HBYY.out.mono ?_;rintro e' w3 ⟨rfl,hb3⟩)
   obtain ⟨W2,hW2⟩:∃ W,w3.alloc (.cells (vs .u8 8 (nmB ((i:Int) / 32))) 135)=W:=⟨_,rfl⟩
   rw [hW2]
   have rb:W2.heap[w3.heap.size]?=some (.cells (vs .u8 8 (nmB ((i:Int) / 32))) 135):=by rw [←hW2];exact aA2 rfl
   have hE2:Below w3.heap.size w3 W2:=by rw [←hW2];exact (Below.refl _ _).alloc (Nat.le_refl _) _
   have hB2:Below W0.heap.size W0 W2:=HB1.out.trans ((hb3.trans (hE2.mono hb3.size)).mono HB1.out.size)
   have ho2:=own_below (own_below HO1.out hb3) hE2
   have rs2:=HRR.out W2 hB2
   obtain ⟨y,ey⟩:∃ y,w3.heap.size=y:=⟨_,rfl⟩
   rw [ey] at rb ⊢
   obtain ⟨Q,eQ⟩:∃ Q,(i:Int) / 32=Q:=⟨_,rfl⟩
   rw [eQ] at rb
   have hloo:=HLOO.out
   rw [eQ] at hloo
   have zz2:=hB2.size
   have hap1:∀ (W:World) e,Below W2.heap.size W2 W→W.ownsRow W2.heap.size 5 1 (.slice (some ⟨e,0,none⟩) 0 0) 0 (bl (sd8 s Q) 0)→∀ ty,∃g C w',(aDO ty (.slice (some ⟨e,0,none⟩) 0 0) (.slice (some ⟨w.heap.size+1,0,none⟩) 32 32)).run Tryz.prog W=.ok (.slice (some ⟨g,0,none⟩) 32 C) w'∧w'.ownsRow W2.heap.size 5 1 (.slice (some ⟨g,0,none⟩) 32 C) 32 (bl (sd8 s Q) 32)∧Below W2.heap.size W2 w'∧(∀ (y:Nat) (D:Array Value),W.heap[y]?=some (.cells D 24)→w'.heap[y]?=some (.cells D 24)):=fun W e hW ho ty=>by
    obtain ⟨g,C,w',h1,h2,h3,h4⟩:=aHp W W2.heap.size (.slice (some ⟨e,0,none⟩) 0 0) 0 32 32 (w.heap.size+1) (sd8 s Q) s ho (fun j hj=>aA8 ((hW.block _ (Array.getElem?_eq_some_iff.1 rs2).1).trans rs2) j (by omega)) (fun j hj=>by unfold sd8;rw [Nat.zero_add,if_pos hj]) hW.size (by omega) (by omega) (by omega) ty
    rw [Nat.zero_add] at h1 h2
    exact ⟨g,C,w',h1,h2,hW.trans h3,fun y D hy=>h4 y D _ hy (by decide)⟩
   have hap2:∀ (W:World) g C,Below W2.heap.size W2 W→W.ownsRow W2.heap.size 5 1 (.slice (some ⟨g,0,none⟩) 32 C) 32 (bl (sd8 s Q) 32)→∀ ty,∃g' C' w',(aDO ty (.slice (some ⟨g,0,none⟩) 32 C) (.slice (some ⟨y,0,none⟩) 8 8)).run Tryz.prog W=.ok (.slice (some ⟨g',0,none⟩) 40 C') w'∧w'.ownsRow W2.heap.size 5 1 (.slice (some ⟨g',0,none⟩) 40 C') 40 (bl (sd8 s Q) 40)∧Below W2.heap.size W2 w'∧(∀ (y:Nat) (D:Array Value),W.heap[y]?=some (.cells D 24)→w'.heap[y]?=some (.cells D 24)):=fun W g C hW ho ty=>by
    obtain ⟨g',C',w',h1,h2,h3,h4⟩:=aHp W W2.heap.size _ 32 8 8 y (sd8 s Q) (nmB Q) ho (fun j hj=>aA8 ((hW.block _ (Array.getElem?_eq_some_iff.1 rb).1).trans rb) j hj) (fun j hj=>by unfold sd8;rw [if_neg (by omega),show 32+j - 32=j by omega]) hW.size (by omega) (by omega) (by omega) ty
    exact ⟨g',C',w',h1,h2,hW.trans h3,fun y D hy=>h4 y D _ hy (by decide)⟩
   have hsm:=fun (W:World) g C (h:Below W2.heap.size W2 W) (ho:W.ownsRow W2.heap.size 5 1 (.slice (some ⟨g,0,none⟩) 40 C) 40 (bl (sd8 s Q) 40))=>HSU.out Q W g C _ (hB2.trans (h.mono hB2.size)) ho
   obtain ⟨X,eX⟩:∃ X,aCH KW HW (sd8 s Q) 40=X:=⟨_,rfl⟩
   simp only [eX] at hsm
   rw [eX] at hloo
   have hdr:Below W2.heap.size W2 W2.drew:=(Below.refl _ _).drew
   have HAP1:=hid hap1
   have HAP2:=hid hap2
   have HSUM:=hid hsm
   have HDR:=hid hdr
   have HB2:=hid hB2
   have HO2:=hid ho2
   have HXX:=hid hloo
   clear hap1 hap2 hsm hdr hB2 ho2 hloo eX eQ rb rs2 hE2 hb3 ey hW2 z8 v8 HB1 HO1 HBYY zz2 HLOO
   refine wp_region_noPanic ?_
   refine wp_region_held_drew (S:=fun _=>True) (by kernel_rfl) (trivial) (fun hHeld=>?_)
   refine tk 1 (v:=?v301) ?y301 hHeld ?r301
   case y301=>intro w hSw;go_simp;try with_reducible rfl
   refine tk 3 (v:=?v302) ?y302 hHeld ?r302
   case y302=>intro w hSw;go_simp;try with_reducible rfl
   try simp only [Act.put,z_1,z_2,z_3,z_4,z_5,z_6,z_7]
   refine wpAnyH_ready (rs:=[0,6]) (by kernel_rfl) (by simp) ?_
   refine AllReadyH.cons rfl (fun K hK=>?_) (AllReadyH.cons rfl (fun K hK=>?_) AllReadyH.nil)
   ·go_simp
    have hc1:Below W2.heap.size W2 (W2.drew.alloc (.cells #[] 5)):=(HDR.out).alloc (HDR.out).size _
    have ho1:(W2.drew.alloc (.cells #[] 5)).ownsRow W2.heap.size 5 1 (.slice (some ⟨W2.heap.size,0,none⟩) 0 0) 0 (bl (sd8 s Q) 0):=by
     rw [show W2.heap.size=W2.drew.heap.size by simp]
     exact World.ownsRow_made _ #[] 0 (HDR.out).size (Nat.zero_le _) rfl
    refine hK.out _ _ (trivial) (fun hHeld=>?_)
    clear hK K
    try simp only [Act.put,z_1,z_2,z_3,z_4,z_5,z_6,z_7]
    refine wpAnyH_ready (rs:=[2,6]) (by kernel_rfl) (by simp) ?_
    refine AllReadyH.cons rfl (fun K hK=>?_) (AllReadyH.cons rfl (fun K hK=>?_) AllReadyH.nil)
    ·obtain ⟨g2,C2,x2,hap2,ho2,hc2,hr2⟩:=HAP1.out (W2.drew.alloc (.cells #[] 5)) _ hc1 ho1 39
     refine aAo _ _ rfl _ _ _ _ rfl rfl hap2 ?_
     refine hK.out _ _ (trivial) (fun hHeld=>?_)
     clear hK K
     try simp only [Act.put,z_1,z_2,z_3,z_4,z_5,z_6,z_7]
     refine wpAnyH_ready (rs:=[4,6]) (by kernel_rfl) (by simp) ?_
     refine AllReadyH.cons rfl (fun K hK=>?_) (AllReadyH.cons rfl (fun K hK=>?_) AllReadyH.nil)
     ·obtain ⟨g3,C3,x3,hap3,ho3,hc3,hr3⟩:=HAP2.out x2 _ _ hc2 ho2 39
      refine aAo _ _ rfl _ _ _ _ rfl rfl hap3 ?_
      refine hK.out _ _ (trivial) (fun hHeld=>?_)
      clear hK K
      try simp only [Act.put,z_1,z_2,z_3,z_4,z_5,z_6,z_7]
      refine wpAnyH_ready (rs:=[5,6]) (by kernel_rfl) (by simp) ?_
      refine AllReadyH.cons rfl (fun K hK=>?_) (AllReadyH.cons rfl (fun K hK=>?_) AllReadyH.nil)
      ·go_simp
       refine (HSUM.out x3 _ _ hc3 ho3).mono ?_
       rintro e' x4 ⟨rfl,hd4⟩
       dsimp only
       have hc4:Below W2.heap.size W2 x4:=(hc3).trans (hd4.mono (hc3).size)
       refine hK.out _ _ (trivial) (fun hHeld=>?_)
       clear hK K
       try simp only [Act.put,z_1,z_2,z_3,z_4,z_5,z_6,z_7]
       refine wpAnyH_ready (rs:=[6]) (by kernel_rfl) (by simp) ?_
       refine AllReadyH.cons rfl (fun K hK=>?_) AllReadyH.nil
       have zr:=aAj
       go_simp
       have hc5:Below W2.heap.size W2 (x4.alloc (.cells (vs .u8 32 fun _=>0) 24)):=(hc4).alloc (hc4).size _
       have ry5:(x4.alloc (.cells (vs .u8 32 fun _=>0) 24)).heap[x4.heap.size]?=some (.cells (vs .u8 32 fun _=>0) 24):=aA2 (by simp)
       have hyy:W2.heap.size≤x4.heap.size:=(hc4).size
       refine hK.out _ _ (trivial) (fun hHeld=>?_)
       clear hK K
       try simp only [Act.put,z_1,z_2,z_3,z_4,z_5,z_6,z_7]
       refine wpAnyH_ready (rs:=[7]) (by kernel_rfl) (by simp) ?_
       refine AllReadyH.cons rfl (fun K hK=>?_) AllReadyH.nil
       have v3:=aAv ry5 X
       go_simp
       refine hK.out _ _ (trivial) (fun hHeld=>?_)
       clear hK K
       try simp only [Act.put,z_1,z_2,z_3,z_4,z_5,z_6,z_7]
       refine wpAnyH_done (by kernel_rfl) ?_ _
       refine NoPanic.normal ?_
       obtain ⟨W4,hW4⟩:∃ W,(x4.alloc (.cells (vs .u8 32 fun _=>0) 24)).setRow x4.heap.size (vs .u8 32 X)=W:=⟨_,rfl⟩
       rw [hW4]
       have r4:W4.heap[x4.heap.size]?=some (.cells (vs .u8 32 X) 24):=by rw [←hW4];exact aA4 ry5
       have hF4:Below W2.heap.size W2 W4:=by rw [←hW4];exact aA6 hc5 hyy _
       obtain ⟨y4,ey4⟩:∃ y,x4.heap.size=y:=⟨_,rfl⟩
       rw [ey4] at r4 ⊢
       clear hW4 ey4
       have hB4:Below W0.heap.size W0 W4:=HB2.out.trans (hF4.mono HB2.out.size)
       have ho4:=own_below HO2.out hF4
       have hm32:=Nat.mod_lt i (show 0 < 32 by omega)
       have cx:=aA8 r4 (i % 32) hm32
       rw [HXX.out] at cx
       obtain ⟨j32,ej⟩:∃ j,i % 32=j:=⟨_,rfl⟩
       rw [ej] at cx hm32
       obtain ⟨q1,q2,q3⟩:=HQ.out
       have c7:=HCS.out W4 hB4
       rcases HEL.out.below hB4 with e0 | ⟨bv,ov,ev,hbv,hcv⟩
       ·omega
       rcases HL0.out.below hB4 with e0 | ⟨bl',ol,el,hbl,hcl⟩
       ·omega
       subst ev el
       have cl:W4.cell? ⟨bl',ol+q,none⟩=some (.int .u64 (V:Int)):=by rw [←q2];exact hcl q q1
       have ce:=aDj (hcv V q3)
       have ix:=fun W=>aBf W bv ov nV C V q3
       obtain ⟨hf1,hf2⟩:=HEF.out V q3
       have htk:=HTKK.out
       obtain ⟨O,eO⟩:∃ O,ov+86*V=O:=⟨_,rfl⟩
       rw [eO] at ce
       simp only [eO] at ix
       obtain ⟨E,eE⟩:∃ E,(z V).f2=E:=⟨_,rfl⟩
       rw [eE] at ce hf1 hf2 htk
       obtain ⟨T,eT⟩:∃ T,aGJ s i=T:=⟨_,rfl⟩
       rw [eT] at cx hlb htk
       obtain ⟨t0,t1⟩:=hlb
       have qn:(q:Int) < (n:Int):=by omega
       have q0:(0:Int)≤(q:Int):=by omega
       have vn:(V:Int) < (nV:Int):=by omega
       have v0:(0:Int)≤(V:Int):=by omega
       have em:(i:Int) % 32=(j32:Int):=by omega
       have ej1:(j32:Int) < 32:=by omega
       have ej0:(0:Int)≤(j32:Int):=by omega
       have tw:IntKind.u64.wrap T=T:=by rw [IntKind.wrap_u64];omega
       have ww1:IntKind.u64.wrap (E*255)=E*255:=by rw [IntKind.wrap_u64];omega
       have ww2:IntKind.u64.wrap (32000000000*T)=32000000000*T:=by rw [IntKind.wrap_u64];omega
       have HB4:=hid hB4
       have HO4:=hid ho4
       have HTK2:=hid htk
       clear hB4 ho4 htk r4 hF4 hcv hcl hbv hbl eO eE eT q2 ej HDR HSUM HAP1 HAP2 HXX HTKK
       have hlt:=HLT.out
       have iw:IntKind.u64.wrap ((i:Int)+1)=(i:Int)+1:=by rw [IntKind.wrap_u64];omega
       by_cases hge:32000000000*T≤E*255
       ·have htt:tkB z L s i=true:=by rw [HTK2.out];exact decide_eq_true hge
        have hnx:Dr (i+1)=Dr i++[(V:Int)]:=by rw [HSTT.out,if_pos htt]
        have hnl:(Dr (i+1)).length=(Dr i).length+1:=by rw [hnx,List.length_append];rfl
        have HNX:=hid hnx
        have HNL:=hid hnl
        clear hnx hnl htt
        go_upto_region 8 with fail
        go_quiet (fail)
        go_upto_region 10 with (at_builtin;refine aB5 _ rfl _ _ rfl W0.heap.size v (Dr i) (V:Int) rfl (own_below HO4.out (below_drewN (Below.refl _ _) _)) rfl (by omega) (below_drewN HB4.out _).size ?_;intro v5 w5 ho5 hg5)
        have hb5:=below_grown (below_drewN HB4.out _) (own_below HO4.out (below_drewN (Below.refl _ _) _)) (below_drewN HB4.out _).size hg5
        rw [←HNX.out] at ho5
        obtain ⟨a5,C5,e5,hn5⟩:=aCd ho5
        subst e5
        have hnl:=HNL.out
        by_cases hwt:(Dr (i+1)).length=want
        ·have hh:=HHI.out (i+1) (by omega) hwt w5 a5 C5 hn5 (HB.out.trans (hb5.mono HB.out.size))
         obtain ⟨m,em5⟩:∃ m,(Dr (i+1)).length=m:=⟨_,rfl⟩
         rw [em5] at hh hwt hnl ⊢
         subst hwt
         have HH:=hid hh
         clear hh hnl em5 ho5 hn5
         go_wp2
         go_ret2
         exact HH.out
        ·obtain ⟨m,em5⟩:∃ m,(Dr (i+1)).length=m:=⟨_,rfl⟩
         rw [em5] at hwt hnl ho5 ⊢
         have hwi:¬ (m:Int)=(want:Int):=by omega
         have HO5:=hid ho5
         have HB5:=hid hb5
         have HEM:=hid em5
         have hml:m < want:=by omega
         clear ho5 hb5 em5 hnl hwt hn5
         go_wp2
         go_roundw
         case rel=>exact ⟨i+1,_,by omega,rfl,by go_num,by rw [HEM.out];exact HO5.out,by rw [HEM.out];exact hml,HB5.out⟩
         case measure=>simp [intOf];omega
       ·have htt:¬ tkB z L s i=true:=by rw [HTK2.out,decide_eq_true_eq];exact hge
        have hnx:Dr (i+1)=Dr i:=by rw [HSTT.out,if_neg htt]
        have HNX:=hid hnx
        have hlx:E*255 < 32000000000*T:=by omega
        obtain ⟨a5,C5,e5⟩:∃ a c,v=.slice a (Dr i).length c:=by
         obtain ⟨a5,C5,e5,_⟩:=aCd HO4.out
         exact ⟨a5,C5,e5⟩
        subst e5
        obtain ⟨m,em5⟩:∃ m,(Dr i).length=m:=⟨_,rfl⟩
        have HEM:=hid em5
        have ho5:=HO4.out
        rw [em5] at ho5 hlt ⊢
        have HO5:=hid ho5
        have hwi:¬ (m:Int)=(want:Int):=by omega
        clear hnx htt ho5 em5 HO4
        go_upto_region 8 with fail
        go_quiet (fail)
        go_wp2
        go_roundw
        case rel=>exact ⟨i+1,_,by omega,rfl,by go_num,by rw [HNX.out,HEM.out];exact own_below HO5.out (below_drewN (Below.refl _ _) _),by rw [HNX.out,HEM.out];exact hlt,below_drewN HB4.out _⟩
        case measure=>simp [intOf];omega
      ·have zr:=aAj
       go_simp
       have hc4:Below W2.heap.size W2 (x3.alloc (.cells (vs .u8 32 fun _=>0) 24)):=(hc3).alloc (hc3).size _
       have ry4:(x3.alloc (.cells (vs .u8 32 fun _=>0) 24)).heap[x3.heap.size]?=some (.cells (vs .u8 32 fun _=>0) 24):=aA2 (by simp)
       have hyy:W2.heap.size≤x3.heap.size:=(hc3).size
       have ho4:=(ho3).alloc (.cells (vs .u8 32 fun _=>0) 24)
       refine hK.out _ _ (trivial) (fun hHeld=>?_)
       clear hK K
       try simp only [Act.put,z_1,z_2,z_3,z_4,z_5,z_6,z_7]
       refine wpAnyH_ready (rs:=[5]) (by kernel_rfl) (by simp) ?_
       refine AllReadyH.cons rfl (fun K hK=>?_) AllReadyH.nil
       go_simp
       refine (HSUM.out (x3.alloc (.cells (vs .u8 32 fun _=>0) 24)) _ _ hc4 ho4).mono ?_
       rintro e' x5 ⟨rfl,hd5⟩
       dsimp only
       have hc5:Below W2.heap.size W2 x5:=(hc4).trans (hd5.mono (hc4).size)
       have ry5:=(hd5.block _ (aAe ry4)).trans ry4
       refine hK.out _ _ (trivial) (fun hHeld=>?_)
       clear hK K
       try simp only [Act.put,z_1,z_2,z_3,z_4,z_5,z_6,z_7]
       refine wpAnyH_ready (rs:=[7]) (by kernel_rfl) (by simp) ?_
       refine AllReadyH.cons rfl (fun K hK=>?_) AllReadyH.nil
       have v3:=aAv ry5 X
       go_simp
       refine hK.out _ _ (trivial) (fun hHeld=>?_)
       clear hK K
       try simp only [Act.put,z_1,z_2,z_3,z_4,z_5,z_6,z_7]
       refine wpAnyH_done (by kernel_rfl) ?_ _
       refine NoPanic.normal ?_
       obtain ⟨W4,hW4⟩:∃ W,x5.setRow x3.heap.size (vs .u8 32 X)=W:=⟨_,rfl⟩
       rw [hW4]
       have r4:W4.heap[x3.heap.size]?=some (.cells (vs .u8 32 X) 24):=by rw [←hW4];exact aA4 ry5
       have hF4:Below W2.heap.size W2 W4:=by rw [←hW4];exact aA6 hc5 hyy _
       obtain ⟨y4,ey4⟩:∃ y,x3.heap.size=y:=⟨_,rfl⟩
       rw [ey4] at r4 ⊢
       clear hW4 ey4
       have hB4:Below W0.heap.size W0 W4:=HB2.out.trans (hF4.mono HB2.out.size)
       have ho4:=own_below HO2.out hF4
       have hm32:=Nat.mod_lt i (show 0 < 32 by omega)
       have cx:=aA8 r4 (i % 32) hm32
       rw [HXX.out] at cx
       obtain ⟨j32,ej⟩:∃ j,i % 32=j:=⟨_,rfl⟩
       rw [ej] at cx hm32
       obtain ⟨q1,q2,q3⟩:=HQ.out
       have c7:=HCS.out W4 hB4
       rcases HEL.out.below hB4 with e0 | ⟨bv,ov,ev,hbv,hcv⟩
       ·omega
       rcases HL0.out.below hB4 with e0 | ⟨bl',ol,el,hbl,hcl⟩
       ·omega
       subst ev el
       have cl:W4.cell? ⟨bl',ol+q,none⟩=some (.int .u64 (V:Int)):=by rw [←q2];exact hcl q q1
       have ce:=aDj (hcv V q3)
       have ix:=fun W=>aBf W bv ov nV C V q3
       obtain ⟨hf1,hf2⟩:=HEF.out V q3
       have htk:=HTKK.out
       obtain ⟨O,eO⟩:∃ O,ov+86*V=O:=⟨_,rfl⟩
       rw [eO] at ce
       simp only [eO] at ix
       obtain ⟨E,eE⟩:∃ E,(z V).f2=E:=⟨_,rfl⟩
       rw [eE] at ce hf1 hf2 htk
       obtain ⟨T,eT⟩:∃ T,aGJ s i=T:=⟨_,rfl⟩
       rw [eT] at cx hlb htk
       obtain ⟨t0,t1⟩:=hlb
       have qn:(q:Int) < (n:Int):=by omega
       have q0:(0:Int)≤(q:Int):=by omega
       have vn:(V:Int) < (nV:Int):=by omega
       have v0:(0:Int)≤(V:Int):=by omega
       have em:(i:Int) % 32=(j32:Int):=by omega
       have ej1:(j32:Int) < 32:=by omega
       have ej0:(0:Int)≤(j32:Int):=by omega
       have tw:IntKind.u64.wrap T=T:=by rw [IntKind.wrap_u64];omega
       have ww1:IntKind.u64.wrap (E*255)=E*255:=by rw [IntKind.wrap_u64];omega
       have ww2:IntKind.u64.wrap (32000000000*T)=32000000000*T:=by rw [IntKind.wrap_u64];omega
       have HB4:=hid hB4
       have HO4:=hid ho4
       have HTK2:=hid htk
       clear hB4 ho4 htk r4 hF4 hcv hcl hbv hbl eO eE eT q2 ej HDR HSUM HAP1 HAP2 HXX HTKK
       have hlt:=HLT.out
       have iw:IntKind.u64.wrap ((i:Int)+1)=(i:Int)+1:=by rw [IntKind.wrap_u64];omega
       by_cases hge:32000000000*T≤E*255
       ·have htt:tkB z L s i=true:=by rw [HTK2.out];exact decide_eq_true hge
        have hnx:Dr (i+1)=Dr i++[(V:Int)]:=by rw [HSTT.out,if_pos htt]
        have hnl:(Dr (i+1)).length=(Dr i).length+1:=by rw [hnx,List.length_append];rfl
        have HNX:=hid hnx
        have HNL:=hid hnl
        clear hnx hnl htt
        go_upto_region 8 with fail
        go_quiet (fail)
        go_upto_region 10 with (at_builtin;refine aB5 _ rfl _ _ rfl W0.heap.size v (Dr i) (V:Int) rfl (own_below HO4.out (below_drewN (Below.refl _ _) _)) rfl (by omega) (below_drewN HB4.out _).size ?_;intro v5 w5 ho5 hg5)
        have hb5:=below_grown (below_drewN HB4.out _) (own_below HO4.out (below_drewN (Below.refl _ _) _)) (below_drewN HB4.out _).size hg5
        rw [←HNX.out] at ho5
        obtain ⟨a5,C5,e5,hn5⟩:=aCd ho5
        subst e5
        have hnl:=HNL.out
        by_cases hwt:(Dr (i+1)).length=want
        ·have hh:=HHI.out (i+1) (by omega) hwt w5 a5 C5 hn5 (HB.out.trans (hb5.mono HB.out.size))
         obtain ⟨m,em5⟩:∃ m,(Dr (i+1)).length=m:=⟨_,rfl⟩
         rw [em5] at hh hwt hnl ⊢
         subst hwt
         have HH:=hid hh
         clear hh hnl em5 ho5 hn5
         go_wp2
         go_ret2
         exact HH.out
        ·obtain ⟨m,em5⟩:∃ m,(Dr (i+1)).length=m:=⟨_,rfl⟩
         rw [em5] at hwt hnl ho5 ⊢
         have hwi:¬ (m:Int)=(want:Int):=by omega
         have HO5:=hid ho5
         have HB5:=hid hb5
         have HEM:=hid em5
         have hml:m < want:=by omega
         clear ho5 hb5 em5 hnl hwt hn5
         go_wp2
         go_roundw
         case rel=>exact ⟨i+1,_,by omega,rfl,by go_num,by rw [HEM.out];exact HO5.out,by rw [HEM.out];exact hml,HB5.out⟩
         case measure=>simp [intOf];omega
       ·have htt:¬ tkB z L s i=true:=by rw [HTK2.out,decide_eq_true_eq];exact hge
        have hnx:Dr (i+1)=Dr i:=by rw [HSTT.out,if_neg htt]
        have HNX:=hid hnx
        have hlx:E*255 < 32000000000*T:=by omega
        obtain ⟨a5,C5,e5⟩:∃ a c,v=.slice a (Dr i).length c:=by
         obtain ⟨a5,C5,e5,_⟩:=aCd HO4.out
         exact ⟨a5,C5,e5⟩
        subst e5
        obtain ⟨m,em5⟩:∃ m,(Dr i).length=m:=⟨_,rfl⟩
        have HEM:=hid em5
        have ho5:=HO4.out
        rw [em5] at ho5 hlt ⊢
        have HO5:=hid ho5
        have hwi:¬ (m:Int)=(want:Int):=by omega
        clear hnx htt ho5 em5 HO4
        go_upto_region 8 with fail
        go_quiet (fail)
        go_wp2
        go_roundw
        case rel=>exact ⟨i+1,_,by omega,rfl,by go_num,by rw [HNX.out,HEM.out];exact own_below HO5.out (below_drewN (Below.refl _ _) _),by rw [HNX.out,HEM.out];exact hlt,below_drewN HB4.out _⟩
        case measure=>simp [intOf];omega
     ·have zr:=aAj
      go_simp
      have hc3:Below W2.heap.size W2 (x2.alloc (.cells (vs .u8 32 fun _=>0) 24)):=(hc2).alloc (hc2).size _
      have ry3:(x2.alloc (.cells (vs .u8 32 fun _=>0) 24)).heap[x2.heap.size]?=some (.cells (vs .u8 32 fun _=>0) 24):=aA2 (by simp)
      have hyy:W2.heap.size≤x2.heap.size:=(hc2).size
      have ho3:=(ho2).alloc (.cells (vs .u8 32 fun _=>0) 24)
      refine hK.out _ _ (trivial) (fun hHeld=>?_)
      clear hK K
      try simp only [Act.put,z_1,z_2,z_3,z_4,z_5,z_6,z_7]
      refine wpAnyH_ready (rs:=[4]) (by kernel_rfl) (by simp) ?_
      refine AllReadyH.cons rfl (fun K hK=>?_) AllReadyH.nil
      obtain ⟨g4,C4,x4,hap4,ho4,hc4,hr4⟩:=HAP2.out (x2.alloc (.cells (vs .u8 32 fun _=>0) 24)) _ _ hc3 ho3 39
      refine aAo _ _ rfl _ _ _ _ rfl rfl hap4 ?_
      have ry4:=hr4 _ _ ry3
      refine hK.out _ _ (trivial) (fun hHeld=>?_)
      clear hK K
      try simp only [Act.put,z_1,z_2,z_3,z_4,z_5,z_6,z_7]
      refine wpAnyH_ready (rs:=[5]) (by kernel_rfl) (by simp) ?_
      refine AllReadyH.cons rfl (fun K hK=>?_) AllReadyH.nil
      go_simp
      refine (HSUM.out x4 _ _ hc4 ho4).mono ?_
      rintro e' x5 ⟨rfl,hd5⟩
      dsimp only
      have hc5:Below W2.heap.size W2 x5:=(hc4).trans (hd5.mono (hc4).size)
      have ry5:=(hd5.block _ (aAe ry4)).trans ry4
      refine hK.out _ _ (trivial) (fun hHeld=>?_)
      clear hK K
      try simp only [Act.put,z_1,z_2,z_3,z_4,z_5,z_6,z_7]
      refine wpAnyH_ready (rs:=[7]) (by kernel_rfl) (by simp) ?_
      refine AllReadyH.cons rfl (fun K hK=>?_) AllReadyH.nil
      have v3:=aAv ry5 X
      go_simp
      refine hK.out _ _ (trivial) (fun hHeld=>?_)
      clear hK K
      try simp only [Act.put,z_1,z_2,z_3,z_4,z_5,z_6,z_7]
      refine wpAnyH_done (by kernel_rfl) ?_ _
      refine NoPanic.normal ?_
      obtain ⟨W4,hW4⟩:∃ W,x5.setRow x2.heap.size (vs .u8 32 X)=W:=⟨_,rfl⟩
      rw [hW4]
      have r4:W4.heap[x2.heap.size]?=some (.cells (vs .u8 32 X) 24):=by rw [←hW4];exact aA4 ry5
      have hF4:Below W2.heap.size W2 W4:=by rw [←hW4];exact aA6 hc5 hyy _
      obtain ⟨y4,ey4⟩:∃ y,x2.heap.size=y:=⟨_,rfl⟩
      rw [ey4] at r4 ⊢
      clear hW4 ey4
      have hB4:Below W0.heap.size W0 W4:=HB2.out.trans (hF4.mono HB2.out.size)
      have ho4:=own_below HO2.out hF4
      have hm32:=Nat.mod_lt i (show 0 < 32 by omega)
      have cx:=aA8 r4 (i % 32) hm32
      rw [HXX.out] at cx
      obtain ⟨j32,ej⟩:∃ j,i % 32=j:=⟨_,rfl⟩
      rw [ej] at cx hm32
      obtain ⟨q1,q2,q3⟩:=HQ.out
      have c7:=HCS.out W4 hB4
      rcases HEL.out.below hB4 with e0 | ⟨bv,ov,ev,hbv,hcv⟩
      ·omega
      rcases HL0.out.below hB4 with e0 | ⟨bl',ol,el,hbl,hcl⟩
      ·omega
      subst ev el
      have cl:W4.cell? ⟨bl',ol+q,none⟩=some (.int .u64 (V:Int)):=by rw [←q2];exact hcl q q1
      have ce:=aDj (hcv V q3)
      have ix:=fun W=>aBf W bv ov nV C V q3
      obtain ⟨hf1,hf2⟩:=HEF.out V q3
      have htk:=HTKK.out
      obtain ⟨O,eO⟩:∃ O,ov+86*V=O:=⟨_,rfl⟩
      rw [eO] at ce
      simp only [eO] at ix
      obtain ⟨E,eE⟩:∃ E,(z V).f2=E:=⟨_,rfl⟩
      rw [eE] at ce hf1 hf2 htk
      obtain ⟨T,eT⟩:∃ T,aGJ s i=T:=⟨_,rfl⟩
      rw [eT] at cx hlb htk
      obtain ⟨t0,t1⟩:=hlb
      have qn:(q:Int) < (n:Int):=by omega
      have q0:(0:Int)≤(q:Int):=by omega
      have vn:(V:Int) < (nV:Int):=by omega
      have v0:(0:Int)≤(V:Int):=by omega
      have em:(i:Int) % 32=(j32:Int):=by omega
      have ej1:(j32:Int) < 32:=by omega
      have ej0:(0:Int)≤(j32:Int):=by omega
      have tw:IntKind.u64.wrap T=T:=by rw [IntKind.wrap_u64];omega
      have ww1:IntKind.u64.wrap (E*255)=E*255:=by rw [IntKind.wrap_u64];omega
      have ww2:IntKind.u64.wrap (32000000000*T)=32000000000*T:=by rw [IntKind.wrap_u64];omega
      have HB4:=hid hB4
      have HO4:=hid ho4
      have HTK2:=hid htk
      clear hB4 ho4 htk r4 hF4 hcv hcl hbv hbl eO eE eT q2 ej HDR HSUM HAP1 HAP2 HXX HTKK
      have hlt:=HLT.out
      have iw:IntKind.u64.wrap ((i:Int)+1)=(i:Int)+1:=by rw [IntKind.wrap_u64];omega
      by_cases hge:32000000000*T≤E*255
      ·have htt:tkB z L s i=true:=by rw [HTK2.out];exact decide_eq_true hge
       have hnx:Dr (i+1)=Dr i++[(V:Int)]:=by rw [HSTT.out,if_pos htt]
       have hnl:(Dr (i+1)).length=(Dr i).length+1:=by rw [hnx,List.length_append];rfl
       have HNX:=hid hnx
       have HNL:=hid hnl
       clear hnx hnl htt
       go_upto_region 8 with fail
       go_quiet (fail)
       go_upto_region 10 with (at_builtin;refine aB5 _ rfl _ _ rfl W0.heap.size v (Dr i) (V:Int) rfl (own_below HO4.out (below_drewN (Below.refl _ _) _)) rfl (by omega) (below_drewN HB4.out _).size ?_;intro v5 w5 ho5 hg5)
       have hb5:=below_grown (below_drewN HB4.out _) (own_below HO4.out (below_drewN (Below.refl _ _) _)) (below_drewN HB4.out _).size hg5
       rw [←HNX.out] at ho5
       obtain ⟨a5,C5,e5,hn5⟩:=aCd ho5
       subst e5
       have hnl:=HNL.out
       by_cases hwt:(Dr (i+1)).length=want
       ·have hh:=HHI.out (i+1) (by omega) hwt w5 a5 C5 hn5 (HB.out.trans (hb5.mono HB.out.size))
        obtain ⟨m,em5⟩:∃ m,(Dr (i+1)).length=m:=⟨_,rfl⟩
        rw [em5] at hh hwt hnl ⊢
        subst hwt
        have HH:=hid hh
        clear hh hnl em5 ho5 hn5
        go_wp2
        go_ret2
        exact HH.out
       ·obtain ⟨m,em5⟩:∃ m,(Dr (i+1)).length=m:=⟨_,rfl⟩
        rw [em5] at hwt hnl ho5 ⊢
        have hwi:¬ (m:Int)=(want:Int):=by omega
        have HO5:=hid ho5
        have HB5:=hid hb5
        have HEM:=hid em5
        have hml:m < want:=by omega
        clear ho5 hb5 em5 hnl hwt hn5
        go_wp2
        go_roundw
        case rel=>exact ⟨i+1,_,by omega,rfl,by go_num,by rw [HEM.out];exact HO5.out,by rw [HEM.out];exact hml,HB5.out⟩
        case measure=>simp [intOf];omega
      ·have htt:¬ tkB z L s i=true:=by rw [HTK2.out,decide_eq_true_eq];exact hge
       have hnx:Dr (i+1)=Dr i:=by rw [HSTT.out,if_neg htt]
       have HNX:=hid hnx
       have hlx:E*255 < 32000000000*T:=by omega
       obtain ⟨a5,C5,e5⟩:∃ a c,v=.slice a (Dr i).length c:=by
        obtain ⟨a5,C5,e5,_⟩:=aCd HO4.out
        exact ⟨a5,C5,e5⟩
       subst e5
       obtain ⟨m,em5⟩:∃ m,(Dr i).length=m:=⟨_,rfl⟩
       have HEM:=hid em5
       have ho5:=HO4.out
       rw [em5] at ho5 hlt ⊢
       have HO5:=hid ho5
       have hwi:¬ (m:Int)=(want:Int):=by omega
       clear hnx htt ho5 em5 HO4
       go_upto_region 8 with fail
       go_quiet (fail)
       go_wp2
       go_roundw
       case rel=>exact ⟨i+1,_,by omega,rfl,by go_num,by rw [HNX.out,HEM.out];exact own_below HO5.out (below_drewN (Below.refl _ _) _),by rw [HNX.out,HEM.out];exact hlt,below_drewN HB4.out _⟩
       case measure=>simp [intOf];omega
    ·have zr:=aAj
     go_simp
     have hc2:Below W2.heap.size W2 ((W2.drew.alloc (.cells #[] 5)).alloc (.cells (vs .u8 32 fun _=>0) 24)):=(hc1).alloc (hc1).size _
     have ry2:((W2.drew.alloc (.cells #[] 5)).alloc (.cells (vs .u8 32 fun _=>0) 24)).heap[(W2.heap.size+1)]?=some (.cells (vs .u8 32 fun _=>0) 24):=aA2 (by simp)
     have hyy:W2.heap.size≤(W2.heap.size+1):=Nat.le_succ _
     have ho2:=(ho1).alloc (.cells (vs .u8 32 fun _=>0) 24)
     refine hK.out _ _ (trivial) (fun hHeld=>?_)
     clear hK K
     try simp only [Act.put,z_1,z_2,z_3,z_4,z_5,z_6,z_7]
     refine wpAnyH_ready (rs:=[2]) (by kernel_rfl) (by simp) ?_
     refine AllReadyH.cons rfl (fun K hK=>?_) AllReadyH.nil
     obtain ⟨g3,C3,x3,hap3,ho3,hc3,hr3⟩:=HAP1.out ((W2.drew.alloc (.cells #[] 5)).alloc (.cells (vs .u8 32 fun _=>0) 24)) _ hc2 ho2 39
     refine aAo _ _ rfl _ _ _ _ rfl rfl hap3 ?_
     have ry3:=hr3 _ _ ry2
     refine hK.out _ _ (trivial) (fun hHeld=>?_)
     clear hK K
     try simp only [Act.put,z_1,z_2,z_3,z_4,z_5,z_6,z_7]
     refine wpAnyH_ready (rs:=[4]) (by kernel_rfl) (by simp) ?_
     refine AllReadyH.cons rfl (fun K hK=>?_) AllReadyH.nil
     obtain ⟨g4,C4,x4,hap4,ho4,hc4,hr4⟩:=HAP2.out x3 _ _ hc3 ho3 39
     refine aAo _ _ rfl _ _ _ _ rfl rfl hap4 ?_
     have ry4:=hr4 _ _ ry3
     refine hK.out _ _ (trivial) (fun hHeld=>?_)
     clear hK K
     try simp only [Act.put,z_1,z_2,z_3,z_4,z_5,z_6,z_7]
     refine wpAnyH_ready (rs:=[5]) (by kernel_rfl) (by simp) ?_
     refine AllReadyH.cons rfl (fun K hK=>?_) AllReadyH.nil
     go_simp
     refine (HSUM.out x4 _ _ hc4 ho4).mono ?_
     rintro e' x5 ⟨rfl,hd5⟩
     dsimp only
     have hc5:Below W2.heap.size W2 x5:=(hc4).trans (hd5.mono (hc4).size)
     have ry5:=(hd5.block _ (aAe ry4)).trans ry4
     refine hK.out _ _ (trivial) (fun hHeld=>?_)
     clear hK K
     try simp only [Act.put,z_1,z_2,z_3,z_4,z_5,z_6,z_7]
     refine wpAnyH_ready (rs:=[7]) (by kernel_rfl) (by simp) ?_
     refine AllReadyH.cons rfl (fun K hK=>?_) AllReadyH.nil
     have v3:=aAv ry5 X
     go_simp
     refine hK.out _ _ (trivial) (fun hHeld=>?_)
     clear hK K
     try simp only [Act.put,z_1,z_2,z_3,z_4,z_5,z_6,z_7]
     refine wpAnyH_done (by kernel_rfl) ?_ _
     refine NoPanic.normal ?_
     obtain ⟨W4,hW4⟩:∃ W,x5.setRow (W2.heap.size+1) (vs .u8 32 X)=W:=⟨_,rfl⟩
     rw [hW4]
     have r4:W4.heap[(W2.heap.size+1)]?=some (.cells (vs .u8 32 X) 24):=by rw [←hW4];exact aA4 ry5
     have hF4:Below W2.heap.size W2 W4:=by rw [←hW4];exact aA6 hc5 hyy _
     obtain ⟨y4,ey4⟩:∃ y,(W2.heap.size+1)=y:=⟨_,rfl⟩
     rw [ey4] at r4 ⊢
     clear hW4 ey4
     have hB4:Below W0.heap.size W0 W4:=HB2.out.trans (hF4.mono HB2.out.size)
     have ho4:=own_below HO2.out hF4
     have hm32:=Nat.mod_lt i (show 0 < 32 by omega)
     have cx:=aA8 r4 (i % 32) hm32
     rw [HXX.out] at cx
     obtain ⟨j32,ej⟩:∃ j,i % 32=j:=⟨_,rfl⟩
     rw [ej] at cx hm32
     obtain ⟨q1,q2,q3⟩:=HQ.out
     have c7:=HCS.out W4 hB4
     rcases HEL.out.below hB4 with e0 | ⟨bv,ov,ev,hbv,hcv⟩
     ·omega
     rcases HL0.out.below hB4 with e0 | ⟨bl',ol,el,hbl,hcl⟩
     ·omega
     subst ev el
     have cl:W4.cell? ⟨bl',ol+q,none⟩=some (.int .u64 (V:Int)):=by rw [←q2];exact hcl q q1
     have ce:=aDj (hcv V q3)
     have ix:=fun W=>aBf W bv ov nV C V q3
     obtain ⟨hf1,hf2⟩:=HEF.out V q3
     have htk:=HTKK.out
     obtain ⟨O,eO⟩:∃ O,ov+86*V=O:=⟨_,rfl⟩
     rw [eO] at ce
     simp only [eO] at ix
     obtain ⟨E,eE⟩:∃ E,(z V).f2=E:=⟨_,rfl⟩
     rw [eE] at ce hf1 hf2 htk
     obtain ⟨T,eT⟩:∃ T,aGJ s i=T:=⟨_,rfl⟩
     rw [eT] at cx hlb htk
     obtain ⟨t0,t1⟩:=hlb
     have qn:(q:Int) < (n:Int):=by omega
     have q0:(0:Int)≤(q:Int):=by omega
     have vn:(V:Int) < (nV:Int):=by omega
     have v0:(0:Int)≤(V:Int):=by omega
     have em:(i:Int) % 32=(j32:Int):=by omega
     have ej1:(j32:Int) < 32:=by omega
     have ej0:(0:Int)≤(j32:Int):=by omega
     have tw:IntKind.u64.wrap T=T:=by rw [IntKind.wrap_u64];omega
     have ww1:IntKind.u64.wrap (E*255)=E*255:=by rw [IntKind.wrap_u64];omega
     have ww2:IntKind.u64.wrap (32000000000*T)=32000000000*T:=by rw [IntKind.wrap_u64];omega
     have HB4:=hid hB4
     have HO4:=hid ho4
     have HTK2:=hid htk
     clear hB4 ho4 htk r4 hF4 hcv hcl hbv hbl eO eE eT q2 ej HDR HSUM HAP1 HAP2 HXX HTKK
     have hlt:=HLT.out
     have iw:IntKind.u64.wrap ((i:Int)+1)=(i:Int)+1:=by rw [IntKind.wrap_u64];omega
     by_cases hge:32000000000*T≤E*255
     ·have htt:tkB z L s i=true:=by rw [HTK2.out];exact decide_eq_true hge
      have hnx:Dr (i+1)=Dr i++[(V:Int)]:=by rw [HSTT.out,if_pos htt]
      have hnl:(Dr (i+1)).length=(Dr i).length+1:=by rw [hnx,List.length_append];rfl
      have HNX:=hid hnx
      have HNL:=hid hnl
      clear hnx hnl htt
      go_upto_region 8 with fail
      go_quiet (fail)
      go_upto_region 10 with (at_builtin;refine aB5 _ rfl _ _ rfl W0.heap.size v (Dr i) (V:Int) rfl (own_below HO4.out (below_drewN (Below.refl _ _) _)) rfl (by omega) (below_drewN HB4.out _).size ?_;intro v5 w5 ho5 hg5)
      have hb5:=below_grown (below_drewN HB4.out _) (own_below HO4.out (below_drewN (Below.refl _ _) _)) (below_drewN HB4.out _).size hg5
      rw [←HNX.out] at ho5
      obtain ⟨a5,C5,e5,hn5⟩:=aCd ho5
      subst e5
      have hnl:=HNL.out
      by_cases hwt:(Dr (i+1)).length=want
      ·have hh:=HHI.out (i+1) (by omega) hwt w5 a5 C5 hn5 (HB.out.trans (hb5.mono HB.out.size))
       obtain ⟨m,em5⟩:∃ m,(Dr (i+1)).length=m:=⟨_,rfl⟩
       rw [em5] at hh hwt hnl ⊢
       subst hwt
       have HH:=hid hh
       clear hh hnl em5 ho5 hn5
       go_wp2
       go_ret2
       exact HH.out
      ·obtain ⟨m,em5⟩:∃ m,(Dr (i+1)).length=m:=⟨_,rfl⟩
       rw [em5] at hwt hnl ho5 ⊢
       have hwi:¬ (m:Int)=(want:Int):=by omega
       have HO5:=hid ho5
       have HB5:=hid hb5
       have HEM:=hid em5
       have hml:m < want:=by omega
       clear ho5 hb5 em5 hnl hwt hn5
       go_wp2
       go_roundw
       case rel=>exact ⟨i+1,_,by omega,rfl,by go_num,by rw [HEM.out];exact HO5.out,by rw [HEM.out];exact hml,HB5.out⟩
       case measure=>simp [intOf];omega
     ·have htt:¬ tkB z L s i=true:=by rw [HTK2.out,decide_eq_true_eq];exact hge
      have hnx:Dr (i+1)=Dr i:=by rw [HSTT.out,if_neg htt]
      have HNX:=hid hnx
      have hlx:E*255 < 32000000000*T:=by omega
      obtain ⟨a5,C5,e5⟩:∃ a c,v=.slice a (Dr i).length c:=by
       obtain ⟨a5,C5,e5,_⟩:=aCd HO4.out
       exact ⟨a5,C5,e5⟩
      subst e5
      obtain ⟨m,em5⟩:∃ m,(Dr i).length=m:=⟨_,rfl⟩
      have HEM:=hid em5
      have ho5:=HO4.out
      rw [em5] at ho5 hlt ⊢
      have HO5:=hid ho5
      have hwi:¬ (m:Int)=(want:Int):=by omega
      clear hnx htt ho5 em5 HO4
      go_upto_region 8 with fail
      go_quiet (fail)
      go_wp2
      go_roundw
      case rel=>exact ⟨i+1,_,by omega,rfl,by go_num,by rw [HNX.out,HEM.out];exact own_below HO5.out (below_drewN (Below.refl _ _) _),by rw [HNX.out,HEM.out];exact hlt,below_drewN HB4.out _⟩
      case measure=>simp [intOf];omega
   ·have zr:=aAj
    go_simp
    have hc1:Below W2.heap.size W2 (W2.drew.alloc (.cells (vs .u8 32 fun _=>0) 24)):=(HDR.out).alloc (HDR.out).size _
    have ry1:(W2.drew.alloc (.cells (vs .u8 32 fun _=>0) 24)).heap[W2.heap.size]?=some (.cells (vs .u8 32 fun _=>0) 24):=aA2 (by simp)
    have hyy:W2.heap.size≤W2.heap.size:=Nat.le_refl _
    refine hK.out _ _ (trivial) (fun hHeld=>?_)
    clear hK K
    try simp only [Act.put,z_1,z_2,z_3,z_4,z_5,z_6,z_7]
    refine wpAnyH_ready (rs:=[0]) (by kernel_rfl) (by simp) ?_
    refine AllReadyH.cons rfl (fun K hK=>?_) AllReadyH.nil
    go_simp
    have hc2:Below W2.heap.size W2 ((W2.drew.alloc (.cells (vs .u8 32 fun _=>0) 24)).alloc (.cells #[] 5)):=(hc1).alloc (hc1).size _
    have ho2:((W2.drew.alloc (.cells (vs .u8 32 fun _=>0) 24)).alloc (.cells #[] 5)).ownsRow W2.heap.size 5 1 (.slice (some ⟨(W2.heap.size+1),0,none⟩) 0 0) 0 (bl (sd8 s Q) 0):=by
     rw [show (W2.heap.size+1)=(W2.drew.alloc (.cells (vs .u8 32 fun _=>0) 24)).heap.size by simp]
     exact World.ownsRow_made _ #[] 0 (hc1).size (Nat.zero_le _) rfl
    have ry2:((W2.drew.alloc (.cells (vs .u8 32 fun _=>0) 24)).alloc (.cells #[] 5)).heap[W2.heap.size]?=some (.cells (vs .u8 32 fun _=>0) 24):=(aAc (aAe ry1)).trans ry1
    refine hK.out _ _ (trivial) (fun hHeld=>?_)
    clear hK K
    try simp only [Act.put,z_1,z_2,z_3,z_4,z_5,z_6,z_7]
    refine wpAnyH_ready (rs:=[2]) (by kernel_rfl) (by simp) ?_
    refine AllReadyH.cons rfl (fun K hK=>?_) AllReadyH.nil
    obtain ⟨g3,C3,x3,hap3,ho3,hc3,hr3⟩:=HAP1.out ((W2.drew.alloc (.cells (vs .u8 32 fun _=>0) 24)).alloc (.cells #[] 5)) _ hc2 ho2 39
    refine aAo _ _ rfl _ _ _ _ rfl rfl hap3 ?_
    have ry3:=hr3 _ _ ry2
    refine hK.out _ _ (trivial) (fun hHeld=>?_)
    clear hK K
    try simp only [Act.put,z_1,z_2,z_3,z_4,z_5,z_6,z_7]
    refine wpAnyH_ready (rs:=[4]) (by kernel_rfl) (by simp) ?_
    refine AllReadyH.cons rfl (fun K hK=>?_) AllReadyH.nil
    obtain ⟨g4,C4,x4,hap4,ho4,hc4,hr4⟩:=HAP2.out x3 _ _ hc3 ho3 39
    refine aAo _ _ rfl _ _ _ _ rfl rfl hap4 ?_
    have ry4:=hr4 _ _ ry3
    refine hK.out _ _ (trivial) (fun hHeld=>?_)
    clear hK K
    try simp only [Act.put,z_1,z_2,z_3,z_4,z_5,z_6,z_7]
    refine wpAnyH_ready (rs:=[5]) (by kernel_rfl) (by simp) ?_
    refine AllReadyH.cons rfl (fun K hK=>?_) AllReadyH.nil
    go_simp
    refine (HSUM.out x4 _ _ hc4 ho4).mono ?_
    rintro e' x5 ⟨rfl,hd5⟩
    dsimp only
    have hc5:Below W2.heap.size W2 x5:=(hc4).trans (hd5.mono (hc4).size)
    have ry5:=(hd5.block _ (aAe ry4)).trans ry4
    refine hK.out _ _ (trivial) (fun hHeld=>?_)
    clear hK K
    try simp only [Act.put,z_1,z_2,z_3,z_4,z_5,z_6,z_7]
    refine wpAnyH_ready (rs:=[7]) (by kernel_rfl) (by simp) ?_
    refine AllReadyH.cons rfl (fun K hK=>?_) AllReadyH.nil
    have v3:=aAv ry5 X
    go_simp
    refine hK.out _ _ (trivial) (fun hHeld=>?_)
    clear hK K
    try simp only [Act.put,z_1,z_2,z_3,z_4,z_5,z_6,z_7]
    refine wpAnyH_done (by kernel_rfl) ?_ _
    refine NoPanic.normal ?_
    obtain ⟨W4,hW4⟩:∃ W,x5.setRow W2.heap.size (vs .u8 32 X)=W:=⟨_,rfl⟩
    rw [hW4]
    have r4:W4.heap[W2.heap.size]?=some (.cells (vs .u8 32 X) 24):=by rw [←hW4];exact aA4 ry5
    have hF4:Below W2.heap.size W2 W4:=by rw [←hW4];exact aA6 hc5 hyy _
    obtain ⟨y4,ey4⟩:∃ y,W2.heap.size=y:=⟨_,rfl⟩
    rw [ey4] at r4 ⊢
    clear hW4 ey4
    have hB4:Below W0.heap.size W0 W4:=HB2.out.trans (hF4.mono HB2.out.size)
    have ho4:=own_below HO2.out hF4
    have hm32:=Nat.mod_lt i (show 0 < 32 by omega)
    have cx:=aA8 r4 (i % 32) hm32
    rw [HXX.out] at cx
    obtain ⟨j32,ej⟩:∃ j,i % 32=j:=⟨_,rfl⟩
    rw [ej] at cx hm32
    obtain ⟨q1,q2,q3⟩:=HQ.out
    have c7:=HCS.out W4 hB4
    rcases HEL.out.below hB4 with e0 | ⟨bv,ov,ev,hbv,hcv⟩
    ·omega
    rcases HL0.out.below hB4 with e0 | ⟨bl',ol,el,hbl,hcl⟩
    ·omega
    subst ev el
    have cl:W4.cell? ⟨bl',ol+q,none⟩=some (.int .u64 (V:Int)):=by rw [←q2];exact hcl q q1
    have ce:=aDj (hcv V q3)
    have ix:=fun W=>aBf W bv ov nV C V q3
    obtain ⟨hf1,hf2⟩:=HEF.out V q3
    have htk:=HTKK.out
    obtain ⟨O,eO⟩:∃ O,ov+86*V=O:=⟨_,rfl⟩
    rw [eO] at ce
    simp only [eO] at ix
    obtain ⟨E,eE⟩:∃ E,(z V).f2=E:=⟨_,rfl⟩
    rw [eE] at ce hf1 hf2 htk
    obtain ⟨T,eT⟩:∃ T,aGJ s i=T:=⟨_,rfl⟩
    rw [eT] at cx hlb htk
    obtain ⟨t0,t1⟩:=hlb
    have qn:(q:Int) < (n:Int):=by omega
    have q0:(0:Int)≤(q:Int):=by omega
    have vn:(V:Int) < (nV:Int):=by omega
    have v0:(0:Int)≤(V:Int):=by omega
    have em:(i:Int) % 32=(j32:Int):=by omega
    have ej1:(j32:Int) < 32:=by omega
    have ej0:(0:Int)≤(j32:Int):=by omega
    have tw:IntKind.u64.wrap T=T:=by rw [IntKind.wrap_u64];omega
    have ww1:IntKind.u64.wrap (E*255)=E*255:=by rw [IntKind.wrap_u64];omega
    have ww2:IntKind.u64.wrap (32000000000*T)=32000000000*T:=by rw [IntKind.wrap_u64];omega
    have HB4:=hid hB4
    have HO4:=hid ho4
    have HTK2:=hid htk
    clear hB4 ho4 htk r4 hF4 hcv hcl hbv hbl eO eE eT q2 ej HDR HSUM HAP1 HAP2 HXX HTKK
    have hlt:=HLT.out
    have iw:IntKind.u64.wrap ((i:Int)+1)=(i:Int)+1:=by rw [IntKind.wrap_u64];omega
    by_cases hge:32000000000*T≤E*255
    ·have htt:tkB z L s i=true:=by rw [HTK2.out];exact decide_eq_true hge
     have hnx:Dr (i+1)=Dr i++[(V:Int)]:=by rw [HSTT.out,if_pos htt]
     have hnl:(Dr (i+1)).length=(Dr i).length+1:=by rw [hnx,List.length_append];rfl
     have HNX:=hid hnx
     have HNL:=hid hnl
     clear hnx hnl htt
     go_upto_region 8 with fail
     go_quiet (fail)
     go_upto_region 10 with (at_builtin;refine aB5 _ rfl _ _ rfl W0.heap.size v (Dr i) (V:Int) rfl (own_below HO4.out (below_drewN (Below.refl _ _) _)) rfl (by omega) (below_drewN HB4.out _).size ?_;intro v5 w5 ho5 hg5)
     have hb5:=below_grown (below_drewN HB4.out _) (own_below HO4.out (below_drewN (Below.refl _ _) _)) (below_drewN HB4.out _).size hg5
     rw [←HNX.out] at ho5
     obtain ⟨a5,C5,e5,hn5⟩:=aCd ho5
     subst e5
     have hnl:=HNL.out
     by_cases hwt:(Dr (i+1)).length=want
     ·have hh:=HHI.out (i+1) (by omega) hwt w5 a5 C5 hn5 (HB.out.trans (hb5.mono HB.out.size))
      obtain ⟨m,em5⟩:∃ m,(Dr (i+1)).length=m:=⟨_,rfl⟩
      rw [em5] at hh hwt hnl ⊢
      subst hwt
      have HH:=hid hh
      clear hh hnl em5 ho5 hn5
      go_wp2
      go_ret2
      exact HH.out
     ·obtain ⟨m,em5⟩:∃ m,(Dr (i+1)).length=m:=⟨_,rfl⟩
      rw [em5] at hwt hnl ho5 ⊢
      have hwi:¬ (m:Int)=(want:Int):=by omega
      have HO5:=hid ho5
      have HB5:=hid hb5
      have HEM:=hid em5
      have hml:m < want:=by omega
      clear ho5 hb5 em5 hnl hwt hn5
      go_wp2
      go_roundw
      case rel=>exact ⟨i+1,_,by omega,rfl,by go_num,by rw [HEM.out];exact HO5.out,by rw [HEM.out];exact hml,HB5.out⟩
      case measure=>simp [intOf];omega
    ·have htt:¬ tkB z L s i=true:=by rw [HTK2.out,decide_eq_true_eq];exact hge
     have hnx:Dr (i+1)=Dr i:=by rw [HSTT.out,if_neg htt]
     have HNX:=hid hnx
     have hlx:E*255 < 32000000000*T:=by omega
     obtain ⟨a5,C5,e5⟩:∃ a c,v=.slice a (Dr i).length c:=by
      obtain ⟨a5,C5,e5,_⟩:=aCd HO4.out
      exact ⟨a5,C5,e5⟩
     subst e5
     obtain ⟨m,em5⟩:∃ m,(Dr i).length=m:=⟨_,rfl⟩
     have HEM:=hid em5
     have ho5:=HO4.out
     rw [em5] at ho5 hlt ⊢
     have HO5:=hid ho5
     have hwi:¬ (m:Int)=(want:Int):=by omega
     clear hnx htt ho5 em5 HO4
     go_upto_region 8 with fail
     go_quiet (fail)
     go_wp2
     go_roundw
     case rel=>exact ⟨i+1,_,by omega,rfl,by go_num,by rw [HNX.out,HEM.out];exact own_below HO5.out (below_drewN (Below.refl _ _) _),by rw [HNX.out,HEM.out];exact hlt,below_drewN HB4.out _⟩
     case measure=>simp [intOf];omega
  ·obtain rfl:i=256:=by omega
   have hm:=HMI.out hlt
   have HM:=hid hm
   have HWW:=hid hw
   clear hm hw ho hlt
   go_wp2
   go_ret2
   exact HM.out _ (HB.out.trans (HWW.out.mono HB.out.size))
end Go.Proofs.YtdjplhibmomajaaGreatDoor
