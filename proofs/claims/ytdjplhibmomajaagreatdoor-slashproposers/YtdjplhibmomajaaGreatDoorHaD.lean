/- A part. -/
import Derived.Test.YtdjplhibmomajaaGreatDoorHaC
import Derived.ChangeKeysEq
import Derived.OpenShut
import Derived.WideShapes
namespace Go.Proofs.YtdjplhibmomajaaGreatDoor
open Go.RowKit
set_option linter.unusedVariables false
set_option linter.unusedSimpArgs false
section
open Go.RowKit
set_option linter.unusedVariables false
attribute [local go_sem ↓] aAu aAt
def cat (a b:Nat→Int) (i:Nat):Int:=if i < 32 then a i else b (i - 32)
set_option maxRecDepth 20000 in
set_option maxHeartbeats 400000 in
theorem aQE (K H a b : Nat → Int) (w : World) (hH : Tab w 0 8 H) (hK : Tab w 2 64 K) (hB : ∀ i, i < 8 → 0 ≤ H i ∧ H i < 4294967296) (ha : ∀ j, j < 32 → 0 ≤ a j ∧ a j < 256) (hb : ∀ j, j < 32 → 0 ≤ b j ∧ b j < 256) :
    Calls Tryz.prog 77 #[.agg (vs .u8 32 a),.agg (vs .u8 32 b)] w fun e w'=>e=.returned (.agg (vs .u8 32 (aCH K H (cat a b) 64)))∧Below w.heap.size w w':=by
 have HHH:=hid hH
 have HK:=hid hK
 have HBD:=hid hB
 have HA:=hid ha
 have HBB:=hid hb
 clear hH hK hB ha hb
 go_enter Tryz.func77,Tryz.ntmps77
 go_upto_region 1 with fail
 change Code.wp _ _ _ _ (((w.alloc (.cells (vs .u8 32 a) 24)).alloc (.cells (vs .u8 32 b) 24)).alloc (.cells (vs .u8 32 fun _=>0) 24))
 obtain ⟨W0,hW0⟩:∃ W,((w.alloc (.cells (vs .u8 32 a) 24)).alloc (.cells (vs .u8 32 b) 24)).alloc (.cells (vs .u8 32 fun _=>0) 24)=W:=⟨_,rfl⟩
 rw [hW0]
 have s0:W0.heap.size=w.heap.size+1+1+1:=by rw [←hW0];simp
 have hB0:Below w.heap.size w W0:=by rw [←hW0];go_grown
 have ra:W0.heap[w.heap.size]?=some (.cells (vs .u8 32 a) 24):=by rw [←hW0];exact (aAc (by simp;omega)).trans ((aAc (by simp)).trans (aA2 rfl))
 have rb:W0.heap[w.heap.size+1]?=some (.cells (vs .u8 32 b) 24):=by rw [←hW0];exact (aAc (by simp)).trans (aA2 (by simp))
 have r0:W0.heap[w.heap.size+1+1]?=some (.cells (vs .u8 32 fun _=>0) 24):=by rw [←hW0];exact aA2 (by simp)
 obtain ⟨W1,hW1⟩:∃ W,W0.alloc (.cells (dg H (fun _=>0) 0) 151)=W:=⟨_,rfl⟩
 have g1:W1.heap[W0.heap.size]?=some (.cells (dg H (fun _=>0) ((0:Nat):Int)) 151):=by rw [←hW1];exact aA2 rfl
 have hB1:Below W0.heap.size W0 W1:=by rw [←hW1];exact (Below.refl _ _).alloc (Nat.le_refl _) _
 have hn:=aHL H W0 (HHH.out.below hB0)
 rw [hW1] at hn
 have hBw:Below w.heap.size w W1:=hB0.trans (hB1.mono (by omega))
 have z1:W0.heap.size < W1.heap.size:=by rw [←hW1];simp
 have hk0:=HK.out.1
 have ra1:=(hB1.block w.heap.size (by omega)).trans ra
 have rb1:=(hB1.block (w.heap.size+1) (by omega)).trans rb
 have r01:=(hB1.block (w.heap.size+1+1) (by omega)).trans r0
 have hw:=aCS K H (cat a b) W0.heap.size H (fun _=>0) 0 32 32 w.heap.size 0 W1 (aHv K H _ HBD.out) g1 (HK.out.below hBw) (by omega)
  (fun j hj=>by rw [Nat.zero_add,aA8 ra1 j hj];unfold cat;rw [if_pos hj]) (fun j hj=>by rw [Nat.zero_add];unfold cat;rw [if_pos hj];exact HA.out j hj) (by omega) (by omega) (by omega) (by omega) (by omega)
 have HN:=hid hn
 have HW:=hid hw
 have HR1:=hid (And.intro rb1 r01)
 have HB1:=hid hBw
 have HK1:=hid (HK.out.below hBw)
 have HZ1:=hid (And.intro s0 z1)
 obtain ⟨q,hq⟩:∃ q,W0.heap.size=q:=⟨_,rfl⟩
 rw [hq] at HN HW HZ1
 clear hW0 s0 hB0 r0 ra rb ra1 rb1 r01 hW1 g1 hB1 hn hw hBw z1 hq
 go_upto_region 3 with (first
  | (go_at_call 81; refine HN.out.mono ?_; rintro e w1 ⟨rfl, rfl⟩)
  | (go_at_call 82; refine HW.out.mono ?_; rintro e w2 ⟨rfl, hkp, s', f', hd2, hg2⟩))
 have h1:=HZ1.out
 have rb2:=(hkp.block (w.heap.size+1) (by omega) (by omega)).trans HR1.out.1
 have r02:=(hkp.block (w.heap.size+1+1) (by omega) (by omega)).trans HR1.out.2
 have hB2:Below w.heap.size w w2:=HB1.out.trans (hkp.below (by omega) (by omega))
 have hz2:=hkp.size
 have hk2:=hkp.tab HK1.out (by omega)
 have hw:=aCS K H (cat a b) q s' f' (0+32) 32 32 (w.heap.size+1) 0 w2 hd2 hg2 hk2 (by omega)
  (fun j hj=>by rw [Nat.zero_add,Nat.zero_add,aA8 rb2 j hj];unfold cat;rw [if_neg (by omega),show 32+j - 32=j by omega]) (fun j hj=>by unfold cat;rw [if_neg (by omega),show 0+32+j - 32=j by omega];exact HBB.out j hj) (by omega) (by omega) (by omega) (by omega) (by omega)
 have HW2:=hid hw
 have HK2:=hid hk2
 have HR2:=hid r02
 have HB2:=hid hB2
 have HZ2:Hid (q=w.heap.size+1+1+1∧q < w2.heap.size):=by refine ⟨h1.1,?_⟩;omega
 clear h1 hw rb2 r02 hB2 hz2 hk2 hg2 hd2 hkp
 go_upto_region 4 with (go_at_call 82;refine HW2.out.mono ?_;rintro e w3 ⟨rfl,hkp,s2,f2,hd2,hg2⟩)
 have h1:=HZ2.out
 have hz3:=hkp.size
 have hs:=aFT K H (cat a b) q s2 f2 64 w3 hd2 hg2 (hkp.tab HK2.out (by omega)) (by omega)
 have r3:=(hkp.block (w.heap.size+1+1) (by omega) (by omega)).trans HR2.out
 have hB3:Below w.heap.size w w3:=HB2.out.trans (hkp.below (by omega) (by omega))
 have HS:=hid hs
 have HR3:=hid r3
 have HB3:=hid hB3
 have HZ3:Hid (w.heap.size+1+1 < w3.heap.size):=by show w.heap.size+1+1 < w3.heap.size;omega
 clear h1 hz3 hs r3 hB3 hg2 hd2 hkp
 go_wp2_with (go_at_call 83;refine HS.out.mono ?_;rintro e w4 ⟨rfl,hb4⟩;have v24:=aAv ((hb4.block _ HZ3.out).trans HR3.out) (aCH K H (cat a b) 64))
 refine aC4 4 (w.heap.size+1+1) _ 24 rfl rfl rfl (aA4 ((hb4.block _ HZ3.out).trans HR3.out)) ⟨rfl,?_⟩
 have hz:=HZ3.out
 exact aA6 (HB3.out.trans (hb4.mono (by omega))) (by omega) _
end
section
open Go.RowKit
set_option linter.unusedVariables false
def KW (i:Nat):Int:=[1116352408,1899447441,3049323471,3921009573,961987163,1508970993,2453635748,2870763221,3624381080,310598401,607225278,1426881987,1925078388,2162078206,2614888103,3248222580,3835390401,4022224774,264347078,604807628,770255983,1249150122,1555081692,1996064986,2554220882,2821834349,2952996808,3210313671,3336571891,3584528711,113926993,338241895,666307205,773529912,1294757372,1396182291,1695183700,1986661051,2177026350,2456956037,2730485921,2820302411,3259730800,3345764771,3516065817,3600352804,4094571909,275423344,430227734,506948616,659060556,883997877,958139571,1322822218,1537002063,1747873779,1955562222,2024104815,2227730452,2361852424,2428436474,2756734187,3204031479,3329325298].getD i 0
def HW (i:Nat):Int:=[1779033703,3144134277,1013904242,2773480762,1359893119,2600822924,528734635,1541459225].getD i 0
theorem aHo:∀ i,i < 8→0≤HW i∧HW i < 4294967296:=by decide
structure S8 (K W s:Nat→Int) (t:Nat) (a b c d e f g h:Int):Prop where
 i0:rnd K W s t 0=a
 i1:rnd K W s t 1=b
 i2:rnd K W s t 2=c
 i3:rnd K W s t 3=d
 i4:rnd K W s t 4=e
 i5:rnd K W s t 5=f
 i6:rnd K W s t 6=g
 i7:rnd K W s t 7=h
theorem S8.step {K W s:Nat→Int} {t:Nat} {a b c d e f g h:Int} (S:S8 K W s t a b c d e f g h) {k w:Int} (hk:K t=k) (hw:W t=w) (a' e':Int) (ha:aOr a b c e f g h k w=a') (he:aOs d e f g h k w=e'):S8 K W s (t+1) a' a b c e' e f g:=by
 refine ⟨?_,?_,?_,?_,?_,?_,?_,?_⟩
 ·rw [aH1,S.i0,S.i1,S.i2,S.i4,S.i5,S.i6,S.i7,hk,hw,ha]
 ·rw [aH2,S.i0]
 ·rw [aH3,S.i1]
 ·rw [aH4,S.i2]
 ·rw [aH5,S.i3,S.i4,S.i5,S.i6,S.i7,hk,hw,he]
 ·rw [aH6,S.i4]
 ·rw [aH7,S.i5]
 ·rw [aH8,S.i6]
theorem S8.words {K f s:Nat→Int} {a b c d e g h l:Int} (S:S8 K (aAh f) s 64 a b c d e g h l):aDR K f s 0=(s 0+a) % 4294967296∧aDR K f s 1=(s 1+b) % 4294967296∧aDR K f s 2=(s 2+c) % 4294967296∧aDR K f s 3=(s 3+d) % 4294967296∧aDR K f s 4=(s 4+e) % 4294967296∧aDR K f s 5=(s 5+g) % 4294967296∧aDR K f s 6=(s 6+h) % 4294967296∧aDR K f s 7=(s 7+l) % 4294967296:=by
 unfold aDR
 rw [S.i0,S.i1,S.i2,S.i3,S.i4,S.i5,S.i6,S.i7]
 exact ⟨rfl,rfl,rfl,rfl,rfl,rfl,rfl,rfl⟩
def zM (_:Nat):Int:=0
def zF0 (j:Nat):Int:=aG7 zM 64 (64*0+j)
theorem aVk:aAh zF0 0=0:=(aBz zF0 0 (by decide)).trans (by kernel_rfl)
theorem aUQ:aAh zF0 1=0:=(aBz zF0 1 (by decide)).trans (by kernel_rfl)
theorem aUR:aAh zF0 2=0:=(aBz zF0 2 (by decide)).trans (by kernel_rfl)
theorem aUS:aAh zF0 3=0:=(aBz zF0 3 (by decide)).trans (by kernel_rfl)
theorem aUT:aAh zF0 4=0:=(aBz zF0 4 (by decide)).trans (by kernel_rfl)
theorem aUU:aAh zF0 5=0:=(aBz zF0 5 (by decide)).trans (by kernel_rfl)
theorem aUV:aAh zF0 6=0:=(aBz zF0 6 (by decide)).trans (by kernel_rfl)
theorem aUY:aAh zF0 7=0:=(aBz zF0 7 (by decide)).trans (by kernel_rfl)
theorem aUZ:aAh zF0 8=0:=(aBz zF0 8 (by decide)).trans (by kernel_rfl)
theorem aTa:aAh zF0 9=0:=(aBz zF0 9 (by decide)).trans (by kernel_rfl)
theorem aNL:aAh zF0 10=0:=(aBz zF0 10 (by decide)).trans (by kernel_rfl)
theorem aNM:aAh zF0 11=0:=(aBz zF0 11 (by decide)).trans (by kernel_rfl)
theorem aNN:aAh zF0 12=0:=(aBz zF0 12 (by decide)).trans (by kernel_rfl)
theorem aNO:aAh zF0 13=0:=(aBz zF0 13 (by decide)).trans (by kernel_rfl)
theorem aLL:aAh zF0 14=0:=(aBz zF0 14 (by decide)).trans (by kernel_rfl)
theorem aLM:aAh zF0 15=0:=(aBz zF0 15 (by decide)).trans (by kernel_rfl)
theorem aLN:aAh zF0 16=0:=by
 refine (aAE zF0 16 (by decide)).trans ?_
 show nxt (aAh zF0 14) (aAh zF0 9) (aAh zF0 1) (aAh zF0 0)=_
 rw [aLL,aTa,aUQ,aVk]
 kernel_rfl
theorem aLO:aAh zF0 17=0:=by
 refine (aAE zF0 17 (by decide)).trans ?_
 show nxt (aAh zF0 15) (aAh zF0 10) (aAh zF0 2) (aAh zF0 1)=_
 rw [aLM,aNL,aUR,aUQ]
 kernel_rfl
theorem aLP:aAh zF0 18=0:=by
 refine (aAE zF0 18 (by decide)).trans ?_
 show nxt (aAh zF0 16) (aAh zF0 11) (aAh zF0 3) (aAh zF0 2)=_
 rw [aLN,aNM,aUS,aUR]
 kernel_rfl
theorem aLQ:aAh zF0 19=0:=by
 refine (aAE zF0 19 (by decide)).trans ?_
 show nxt (aAh zF0 17) (aAh zF0 12) (aAh zF0 4) (aAh zF0 3)=_
 rw [aLO,aNN,aUT,aUS]
 kernel_rfl
theorem aLR:aAh zF0 20=0:=by
 refine (aAE zF0 20 (by decide)).trans ?_
 show nxt (aAh zF0 18) (aAh zF0 13) (aAh zF0 5) (aAh zF0 4)=_
 rw [aLP,aNO,aUU,aUT]
 kernel_rfl
theorem aLS:aAh zF0 21=0:=by
 refine (aAE zF0 21 (by decide)).trans ?_
 show nxt (aAh zF0 19) (aAh zF0 14) (aAh zF0 6) (aAh zF0 5)=_
 rw [aLQ,aLL,aUV,aUU]
 kernel_rfl
theorem aLT:aAh zF0 22=0:=by
 refine (aAE zF0 22 (by decide)).trans ?_
 show nxt (aAh zF0 20) (aAh zF0 15) (aAh zF0 7) (aAh zF0 6)=_
 rw [aLR,aLM,aUY,aUV]
 kernel_rfl
theorem aLU:aAh zF0 23=0:=by
 refine (aAE zF0 23 (by decide)).trans ?_
 show nxt (aAh zF0 21) (aAh zF0 16) (aAh zF0 8) (aAh zF0 7)=_
 rw [aLS,aLN,aUZ,aUY]
 kernel_rfl
theorem aLV:aAh zF0 24=0:=by
 refine (aAE zF0 24 (by decide)).trans ?_
 show nxt (aAh zF0 22) (aAh zF0 17) (aAh zF0 9) (aAh zF0 8)=_
 rw [aLT,aLO,aTa,aUZ]
 kernel_rfl
theorem aLW:aAh zF0 25=0:=by
 refine (aAE zF0 25 (by decide)).trans ?_
 show nxt (aAh zF0 23) (aAh zF0 18) (aAh zF0 10) (aAh zF0 9)=_
 rw [aLU,aLP,aNL,aTa]
 kernel_rfl
theorem aLX:aAh zF0 26=0:=by
 refine (aAE zF0 26 (by decide)).trans ?_
 show nxt (aAh zF0 24) (aAh zF0 19) (aAh zF0 11) (aAh zF0 10)=_
 rw [aLV,aLQ,aNM,aNL]
 kernel_rfl
theorem aLY:aAh zF0 27=0:=by
 refine (aAE zF0 27 (by decide)).trans ?_
 show nxt (aAh zF0 25) (aAh zF0 20) (aAh zF0 12) (aAh zF0 11)=_
 rw [aLW,aLR,aNN,aNM]
 kernel_rfl
theorem aLZ:aAh zF0 28=0:=by
 refine (aAE zF0 28 (by decide)).trans ?_
 show nxt (aAh zF0 26) (aAh zF0 21) (aAh zF0 13) (aAh zF0 12)=_
 rw [aLX,aLS,aNO,aNN]
 kernel_rfl
theorem aM0:aAh zF0 29=0:=by
 refine (aAE zF0 29 (by decide)).trans ?_
 show nxt (aAh zF0 27) (aAh zF0 22) (aAh zF0 14) (aAh zF0 13)=_
 rw [aLY,aLT,aLL,aNO]
 kernel_rfl
theorem aM1:aAh zF0 30=0:=by
 refine (aAE zF0 30 (by decide)).trans ?_
 show nxt (aAh zF0 28) (aAh zF0 23) (aAh zF0 15) (aAh zF0 14)=_
 rw [aLZ,aLU,aLM,aLL]
 kernel_rfl
theorem aM2:aAh zF0 31=0:=by
 refine (aAE zF0 31 (by decide)).trans ?_
 show nxt (aAh zF0 29) (aAh zF0 24) (aAh zF0 16) (aAh zF0 15)=_
 rw [aM0,aLV,aLN,aLM]
 kernel_rfl
theorem aM3:aAh zF0 32=0:=by
 refine (aAE zF0 32 (by decide)).trans ?_
 show nxt (aAh zF0 30) (aAh zF0 25) (aAh zF0 17) (aAh zF0 16)=_
 rw [aM1,aLW,aLO,aLN]
 kernel_rfl
theorem aM4:aAh zF0 33=0:=by
 refine (aAE zF0 33 (by decide)).trans ?_
 show nxt (aAh zF0 31) (aAh zF0 26) (aAh zF0 18) (aAh zF0 17)=_
 rw [aM2,aLX,aLP,aLO]
 kernel_rfl
theorem aM5:aAh zF0 34=0:=by
 refine (aAE zF0 34 (by decide)).trans ?_
 show nxt (aAh zF0 32) (aAh zF0 27) (aAh zF0 19) (aAh zF0 18)=_
 rw [aM3,aLY,aLQ,aLP]
 kernel_rfl
theorem aM6:aAh zF0 35=0:=by
 refine (aAE zF0 35 (by decide)).trans ?_
 show nxt (aAh zF0 33) (aAh zF0 28) (aAh zF0 20) (aAh zF0 19)=_
 rw [aM4,aLZ,aLR,aLQ]
 kernel_rfl
theorem aM7:aAh zF0 36=0:=by
 refine (aAE zF0 36 (by decide)).trans ?_
 show nxt (aAh zF0 34) (aAh zF0 29) (aAh zF0 21) (aAh zF0 20)=_
 rw [aM5,aM0,aLS,aLR]
 kernel_rfl
theorem aM8:aAh zF0 37=0:=by
 refine (aAE zF0 37 (by decide)).trans ?_
 show nxt (aAh zF0 35) (aAh zF0 30) (aAh zF0 22) (aAh zF0 21)=_
 rw [aM6,aM1,aLT,aLS]
 kernel_rfl
theorem aM9:aAh zF0 38=0:=by
 refine (aAE zF0 38 (by decide)).trans ?_
 show nxt (aAh zF0 36) (aAh zF0 31) (aAh zF0 23) (aAh zF0 22)=_
 rw [aM7,aM2,aLU,aLT]
 kernel_rfl
theorem aMa:aAh zF0 39=0:=by
 refine (aAE zF0 39 (by decide)).trans ?_
 show nxt (aAh zF0 37) (aAh zF0 32) (aAh zF0 24) (aAh zF0 23)=_
 rw [aM8,aM3,aLV,aLU]
 kernel_rfl
theorem aMb:aAh zF0 40=0:=by
 refine (aAE zF0 40 (by decide)).trans ?_
 show nxt (aAh zF0 38) (aAh zF0 33) (aAh zF0 25) (aAh zF0 24)=_
 rw [aM9,aM4,aLW,aLV]
 kernel_rfl
theorem aMc:aAh zF0 41=0:=by
 refine (aAE zF0 41 (by decide)).trans ?_
 show nxt (aAh zF0 39) (aAh zF0 34) (aAh zF0 26) (aAh zF0 25)=_
 rw [aMa,aM5,aLX,aLW]
 kernel_rfl
theorem aMd:aAh zF0 42=0:=by
 refine (aAE zF0 42 (by decide)).trans ?_
 show nxt (aAh zF0 40) (aAh zF0 35) (aAh zF0 27) (aAh zF0 26)=_
 rw [aMb,aM6,aLY,aLX]
 kernel_rfl
theorem aMe:aAh zF0 43=0:=by
 refine (aAE zF0 43 (by decide)).trans ?_
 show nxt (aAh zF0 41) (aAh zF0 36) (aAh zF0 28) (aAh zF0 27)=_
 rw [aMc,aM7,aLZ,aLY]
 kernel_rfl
theorem aMf:aAh zF0 44=0:=by
 refine (aAE zF0 44 (by decide)).trans ?_
 show nxt (aAh zF0 42) (aAh zF0 37) (aAh zF0 29) (aAh zF0 28)=_
 rw [aMd,aM8,aM0,aLZ]
 kernel_rfl
theorem aMg:aAh zF0 45=0:=by
 refine (aAE zF0 45 (by decide)).trans ?_
 show nxt (aAh zF0 43) (aAh zF0 38) (aAh zF0 30) (aAh zF0 29)=_
 rw [aMe,aM9,aM1,aM0]
 kernel_rfl
theorem aMh:aAh zF0 46=0:=by
 refine (aAE zF0 46 (by decide)).trans ?_
 show nxt (aAh zF0 44) (aAh zF0 39) (aAh zF0 31) (aAh zF0 30)=_
 rw [aMf,aMa,aM2,aM1]
 kernel_rfl
theorem aMi:aAh zF0 47=0:=by
 refine (aAE zF0 47 (by decide)).trans ?_
 show nxt (aAh zF0 45) (aAh zF0 40) (aAh zF0 32) (aAh zF0 31)=_
 rw [aMg,aMb,aM3,aM2]
 kernel_rfl
theorem aNP:aAh zF0 48=0:=by
 refine (aAE zF0 48 (by decide)).trans ?_
 show nxt (aAh zF0 46) (aAh zF0 41) (aAh zF0 33) (aAh zF0 32)=_
 rw [aMh,aMc,aM4,aM3]
 kernel_rfl
theorem aQF:aAh zF0 49=0:=by
 refine (aAE zF0 49 (by decide)).trans ?_
 show nxt (aAh zF0 47) (aAh zF0 42) (aAh zF0 34) (aAh zF0 33)=_
 rw [aMi,aMd,aM5,aM4]
 kernel_rfl
theorem aQG:aAh zF0 50=0:=by
 refine (aAE zF0 50 (by decide)).trans ?_
 show nxt (aAh zF0 48) (aAh zF0 43) (aAh zF0 35) (aAh zF0 34)=_
 rw [aNP,aMe,aM6,aM5]
 kernel_rfl
theorem aQH:aAh zF0 51=0:=by
 refine (aAE zF0 51 (by decide)).trans ?_
 show nxt (aAh zF0 49) (aAh zF0 44) (aAh zF0 36) (aAh zF0 35)=_
 rw [aQF,aMf,aM7,aM6]
 kernel_rfl
theorem aQI:aAh zF0 52=0:=by
 refine (aAE zF0 52 (by decide)).trans ?_
 show nxt (aAh zF0 50) (aAh zF0 45) (aAh zF0 37) (aAh zF0 36)=_
 rw [aQG,aMg,aM8,aM7]
 kernel_rfl
theorem aQJ:aAh zF0 53=0:=by
 refine (aAE zF0 53 (by decide)).trans ?_
 show nxt (aAh zF0 51) (aAh zF0 46) (aAh zF0 38) (aAh zF0 37)=_
 rw [aQH,aMh,aM9,aM8]
 kernel_rfl
theorem aQK:aAh zF0 54=0:=by
 refine (aAE zF0 54 (by decide)).trans ?_
 show nxt (aAh zF0 52) (aAh zF0 47) (aAh zF0 39) (aAh zF0 38)=_
 rw [aQI,aMi,aMa,aM9]
 kernel_rfl
theorem aQL:aAh zF0 55=0:=by
 refine (aAE zF0 55 (by decide)).trans ?_
 show nxt (aAh zF0 53) (aAh zF0 48) (aAh zF0 40) (aAh zF0 39)=_
 rw [aQJ,aNP,aMb,aMa]
 kernel_rfl
theorem aQM:aAh zF0 56=0:=by
 refine (aAE zF0 56 (by decide)).trans ?_
 show nxt (aAh zF0 54) (aAh zF0 49) (aAh zF0 41) (aAh zF0 40)=_
 rw [aQK,aQF,aMc,aMb]
 kernel_rfl
theorem aT1:aAh zF0 57=0:=by
 refine (aAE zF0 57 (by decide)).trans ?_
 show nxt (aAh zF0 55) (aAh zF0 50) (aAh zF0 42) (aAh zF0 41)=_
 rw [aQL,aQG,aMd,aMc]
 kernel_rfl
theorem aT2:aAh zF0 58=0:=by
 refine (aAE zF0 58 (by decide)).trans ?_
 show nxt (aAh zF0 56) (aAh zF0 51) (aAh zF0 43) (aAh zF0 42)=_
 rw [aQM,aQH,aMe,aMd]
 kernel_rfl
theorem aT3:aAh zF0 59=0:=by
 refine (aAE zF0 59 (by decide)).trans ?_
 show nxt (aAh zF0 57) (aAh zF0 52) (aAh zF0 44) (aAh zF0 43)=_
 rw [aT1,aQI,aMf,aMe]
 kernel_rfl
theorem aT4:aAh zF0 60=0:=by
 refine (aAE zF0 60 (by decide)).trans ?_
 show nxt (aAh zF0 58) (aAh zF0 53) (aAh zF0 45) (aAh zF0 44)=_
 rw [aT2,aQJ,aMg,aMf]
 kernel_rfl
theorem aT5:aAh zF0 61=0:=by
 refine (aAE zF0 61 (by decide)).trans ?_
 show nxt (aAh zF0 59) (aAh zF0 54) (aAh zF0 46) (aAh zF0 45)=_
 rw [aT3,aQK,aMh,aMg]
 kernel_rfl
theorem aUW:aAh zF0 62=0:=by
 refine (aAE zF0 62 (by decide)).trans ?_
 show nxt (aAh zF0 60) (aAh zF0 55) (aAh zF0 47) (aAh zF0 46)=_
 rw [aT4,aQL,aMi,aMh]
 kernel_rfl
theorem aUX:aAh zF0 63=0:=by
 refine (aAE zF0 63 (by decide)).trans ?_
 show nxt (aAh zF0 61) (aAh zF0 56) (aAh zF0 48) (aAh zF0 47)=_
 rw [aT5,aQM,aNP,aMi]
 kernel_rfl
theorem aVY:S8 KW (aAh zF0) HW 0 1779033703 3144134277 1013904242 2773480762 1359893119 2600822924 528734635 1541459225:=⟨by kernel_rfl,by kernel_rfl,by kernel_rfl,by kernel_rfl,by kernel_rfl,by kernel_rfl,by kernel_rfl,by kernel_rfl⟩
theorem aVZ:S8 KW (aAh zF0) HW 1 4228417613 1779033703 3144134277 1013904242 2563236514 1359893119 2600822924 528734635:=aVY.step (k:=1116352408) (by kernel_rfl) aVk _ _ (by kernel_rfl) (by kernel_rfl)
theorem aW0:S8 KW (aAh zF0) HW 2 2061066896 4228417613 1779033703 3144134277 2649862678 2563236514 1359893119 2600822924:=aVZ.step (k:=1899447441) (by kernel_rfl) aUQ _ _ (by kernel_rfl) (by kernel_rfl)
theorem aW1:S8 KW (aAh zF0) HW 3 4091374655 2061066896 4228417613 1779033703 3313199355 2649862678 2563236514 1359893119:=aW0.step (k:=3049323471) (by kernel_rfl) aUR _ _ (by kernel_rfl) (by kernel_rfl)
theorem aW2:S8 KW (aAh zF0) HW 4 170176938 4091374655 2061066896 4228417613 2426205641 3313199355 2649862678 2563236514:=aW1.step (k:=3921009573) (by kernel_rfl) aUS _ _ (by kernel_rfl) (by kernel_rfl)
theorem aW3:S8 KW (aAh zF0) HW 5 1218429566 170176938 4091374655 2061066896 749409450 2426205641 3313199355 2649862678:=aW2.step (k:=961987163) (by kernel_rfl) aUT _ _ (by kernel_rfl) (by kernel_rfl)
theorem aW4:S8 KW (aAh zF0) HW 6 1806883463 1218429566 170176938 4091374655 2635206550 749409450 2426205641 3313199355:=aW3.step (k:=1508970993) (by kernel_rfl) aUU _ _ (by kernel_rfl) (by kernel_rfl)
theorem aW5:S8 KW (aAh zF0) HW 7 2522794722 1806883463 1218429566 170176938 2043112922 2635206550 749409450 2426205641:=aW4.step (k:=2453635748) (by kernel_rfl) aUV _ _ (by kernel_rfl) (by kernel_rfl)
theorem aW6:S8 KW (aAh zF0) HW 8 1581879219 2522794722 1806883463 1218429566 2485578848 2043112922 2635206550 749409450:=aW5.step (k:=2870763221) (by kernel_rfl) aUY _ _ (by kernel_rfl) (by kernel_rfl)
theorem aW7:S8 KW (aAh zF0) HW 9 630097338 1581879219 2522794722 1806883463 2208112828 2485578848 2043112922 2635206550:=aW6.step (k:=3624381080) (by kernel_rfl) aUZ _ _ (by kernel_rfl) (by kernel_rfl)
theorem aTX:S8 KW (aAh zF0) HW 10 2279417502 630097338 1581879219 2522794722 1050479591 2208112828 2485578848 2043112922:=aW7.step (k:=310598401) (by kernel_rfl) aTa _ _ (by kernel_rfl) (by kernel_rfl)
theorem aTY:S8 KW (aAh zF0) HW 11 3099050328 2279417502 630097338 1581879219 1706030895 1050479591 2208112828 2485578848:=aTX.step (k:=607225278) (by kernel_rfl) aNL _ _ (by kernel_rfl) (by kernel_rfl)
theorem aTZ:S8 KW (aAh zF0) HW 12 3235833870 3099050328 2279417502 630097338 2107349789 1706030895 1050479591 2208112828:=aTY.step (k:=1426881987) (by kernel_rfl) aNM _ _ (by kernel_rfl) (by kernel_rfl)
theorem aU0:S8 KW (aAh zF0) HW 13 1178652117 3235833870 3099050328 2279417502 1594747770 2107349789 1706030895 1050479591:=aTZ.step (k:=1925078388) (by kernel_rfl) aNN _ _ (by kernel_rfl) (by kernel_rfl)
theorem aU1:S8 KW (aAh zF0) HW 14 986572295 1178652117 3235833870 3099050328 3318148831 1594747770 2107349789 1706030895:=aU0.step (k:=2162078206) (by kernel_rfl) aNO _ _ (by kernel_rfl) (by kernel_rfl)
theorem aU2:S8 KW (aAh zF0) HW 15 3525469376 986572295 1178652117 3235833870 2130347788 3318148831 1594747770 2107349789:=aU1.step (k:=2614888103) (by kernel_rfl) aLL _ _ (by kernel_rfl) (by kernel_rfl)
theorem aU3:S8 KW (aAh zF0) HW 16 529866418 3525469376 986572295 1178652117 4078311056 2130347788 3318148831 1594747770:=aU2.step (k:=3248222580) (by kernel_rfl) aLM _ _ (by kernel_rfl) (by kernel_rfl)
theorem aU4:S8 KW (aAh zF0) HW 17 367693927 529866418 3525469376 986572295 462849088 4078311056 2130347788 3318148831:=aU3.step (k:=3835390401) (by kernel_rfl) aLN _ _ (by kernel_rfl) (by kernel_rfl)
theorem aU5:S8 KW (aAh zF0) HW 18 1943532089 367693927 529866418 3525469376 2868915268 462849088 4078311056 2130347788:=aU4.step (k:=4022224774) (by kernel_rfl) aLO _ _ (by kernel_rfl) (by kernel_rfl)
theorem aU6:S8 KW (aAh zF0) HW 19 2932840628 1943532089 367693927 529866418 3592676163 2868915268 462849088 4078311056:=aU5.step (k:=264347078) (by kernel_rfl) aLP _ _ (by kernel_rfl) (by kernel_rfl)
theorem aU7:S8 KW (aAh zF0) HW 20 567187925 2932840628 1943532089 367693927 958391656 3592676163 2868915268 462849088:=aU6.step (k:=604807628) (by kernel_rfl) aLQ _ _ (by kernel_rfl) (by kernel_rfl)
theorem aU8:S8 KW (aAh zF0) HW 21 1042487203 567187925 2932840628 1943532089 1937773263 958391656 3592676163 2868915268:=aU7.step (k:=770255983) (by kernel_rfl) aLR _ _ (by kernel_rfl) (by kernel_rfl)
theorem aU9:S8 KW (aAh zF0) HW 22 2086730723 1042487203 567187925 2932840628 3264846943 1937773263 958391656 3592676163:=aU8.step (k:=1249150122) (by kernel_rfl) aLS _ _ (by kernel_rfl) (by kernel_rfl)
theorem aUa:S8 KW (aAh zF0) HW 23 652608802 2086730723 1042487203 567187925 359051749 3264846943 1937773263 958391656:=aU9.step (k:=1555081692) (by kernel_rfl) aLT _ _ (by kernel_rfl) (by kernel_rfl)
theorem aUb:S8 KW (aAh zF0) HW 24 2775063474 652608802 2086730723 1042487203 1343774465 359051749 3264846943 1937773263:=aUa.step (k:=1996064986) (by kernel_rfl) aLU _ _ (by kernel_rfl) (by kernel_rfl)
theorem aUc:S8 KW (aAh zF0) HW 25 2156387130 2775063474 652608802 2086730723 3316183042 1343774465 359051749 3264846943:=aUb.step (k:=2554220882) (by kernel_rfl) aLV _ _ (by kernel_rfl) (by kernel_rfl)
theorem aUd:S8 KW (aAh zF0) HW 26 2781806737 2156387130 2775063474 652608802 380684368 3316183042 1343774465 359051749:=aUc.step (k:=2821834349) (by kernel_rfl) aLW _ _ (by kernel_rfl) (by kernel_rfl)
theorem aUe:S8 KW (aAh zF0) HW 27 337293918 2781806737 2156387130 2775063474 1127543555 380684368 3316183042 1343774465:=aUd.step (k:=2952996808) (by kernel_rfl) aLX _ _ (by kernel_rfl) (by kernel_rfl)
theorem aUf:S8 KW (aAh zF0) HW 28 2400639463 337293918 2781806737 2156387130 850390893 1127543555 380684368 3316183042:=aUe.step (k:=3210313671) (by kernel_rfl) aLY _ _ (by kernel_rfl) (by kernel_rfl)
theorem aUg:S8 KW (aAh zF0) HW 29 2652249513 2400639463 337293918 2781806737 568399641 850390893 1127543555 380684368:=aUf.step (k:=3336571891) (by kernel_rfl) aLZ _ _ (by kernel_rfl) (by kernel_rfl)
theorem aUh:S8 KW (aAh zF0) HW 30 923590945 2652249513 2400639463 337293918 1812297249 568399641 850390893 1127543555:=aUg.step (k:=3584528711) (by kernel_rfl) aM0 _ _ (by kernel_rfl) (by kernel_rfl)
theorem aUi:S8 KW (aAh zF0) HW 31 3593886197 923590945 2652249513 2400639463 3555470783 1812297249 568399641 850390893:=aUh.step (k:=113926993) (by kernel_rfl) aM1 _ _ (by kernel_rfl) (by kernel_rfl)
theorem aUj:S8 KW (aAh zF0) HW 32 1591520263 3593886197 923590945 2652249513 4103617462 3555470783 1812297249 568399641:=aUi.step (k:=338241895) (by kernel_rfl) aM2 _ _ (by kernel_rfl) (by kernel_rfl)
theorem aUk:S8 KW (aAh zF0) HW 33 512844204 1591520263 3593886197 923590945 2706167185 4103617462 3555470783 1812297249:=aUj.step (k:=666307205) (by kernel_rfl) aM3 _ _ (by kernel_rfl) (by kernel_rfl)
theorem aUl:S8 KW (aAh zF0) HW 34 2373658994 512844204 1591520263 3593886197 380732500 2706167185 4103617462 3555470783:=aUk.step (k:=773529912) (by kernel_rfl) aM4 _ _ (by kernel_rfl) (by kernel_rfl)
theorem aUm:S8 KW (aAh zF0) HW 35 2793679469 2373658994 512844204 1591520263 1500639116 380732500 2706167185 4103617462:=aUl.step (k:=1294757372) (by kernel_rfl) aM5 _ _ (by kernel_rfl) (by kernel_rfl)
theorem aUn:S8 KW (aAh zF0) HW 36 689815065 2793679469 2373658994 512844204 3473127572 1500639116 380732500 2706167185:=aUm.step (k:=1396182291) (by kernel_rfl) aM6 _ _ (by kernel_rfl) (by kernel_rfl)
theorem aUo:S8 KW (aAh zF0) HW 37 2585135331 689815065 2793679469 2373658994 1058274375 3473127572 1500639116 380732500:=aUn.step (k:=1695183700) (by kernel_rfl) aM7 _ _ (by kernel_rfl) (by kernel_rfl)
theorem aUp:S8 KW (aAh zF0) HW 38 2654199797 2585135331 689815065 2793679469 2279604766 1058274375 3473127572 1500639116:=aUo.step (k:=1986661051) (by kernel_rfl) aM8 _ _ (by kernel_rfl) (by kernel_rfl)
theorem aUq:S8 KW (aAh zF0) HW 39 3850261399 2654199797 2585135331 689815065 2592804600 2279604766 1058274375 3473127572:=aUp.step (k:=2177026350) (by kernel_rfl) aM9 _ _ (by kernel_rfl) (by kernel_rfl)
theorem aUr:S8 KW (aAh zF0) HW 40 3169457352 3850261399 2654199797 2585135331 2871170664 2592804600 2279604766 1058274375:=aUq.step (k:=2456956037) (by kernel_rfl) aMa _ _ (by kernel_rfl) (by kernel_rfl)
theorem aUs:S8 KW (aAh zF0) HW 41 1294949930 3169457352 3850261399 2654199797 161402535 2871170664 2592804600 2279604766:=aUr.step (k:=2730485921) (by kernel_rfl) aMb _ _ (by kernel_rfl) (by kernel_rfl)
theorem aUt:S8 KW (aAh zF0) HW 42 527267990 1294949930 3169457352 3850261399 4040288829 161402535 2871170664 2592804600:=aUs.step (k:=2820302411) (by kernel_rfl) aMc _ _ (by kernel_rfl) (by kernel_rfl)
theorem aUu:S8 KW (aAh zF0) HW 43 1426789879 527267990 1294949930 3169457352 646975441 4040288829 161402535 2871170664:=aUt.step (k:=3259730800) (by kernel_rfl) aMd _ _ (by kernel_rfl) (by kernel_rfl)
theorem aUv:S8 KW (aAh zF0) HW 44 1187396118 1426789879 527267990 1294949930 1339113911 646975441 4040288829 161402535:=aUu.step (k:=3345764771) (by kernel_rfl) aMe _ _ (by kernel_rfl) (by kernel_rfl)
theorem aUw:S8 KW (aAh zF0) HW 45 1181999399 1187396118 1426789879 527267990 3798476044 1339113911 646975441 4040288829:=aUv.step (k:=3516065817) (by kernel_rfl) aMf _ _ (by kernel_rfl) (by kernel_rfl)
theorem aUx:S8 KW (aAh zF0) HW 46 296218653 1181999399 1187396118 1426789879 3551518893 3798476044 1339113911 646975441:=aUw.step (k:=3600352804) (by kernel_rfl) aMg _ _ (by kernel_rfl) (by kernel_rfl)
theorem aUy:S8 KW (aAh zF0) HW 47 4454560 296218653 1181999399 1187396118 3005618434 3551518893 3798476044 1339113911:=aUx.step (k:=4094571909) (by kernel_rfl) aMh _ _ (by kernel_rfl) (by kernel_rfl)
theorem aUz:S8 KW (aAh zF0) HW 48 3096899724 4454560 296218653 1181999399 872857159 3005618434 3551518893 3798476044:=aUy.step (k:=275423344) (by kernel_rfl) aMi _ _ (by kernel_rfl) (by kernel_rfl)
theorem aUA:S8 KW (aAh zF0) HW 49 3375379330 3096899724 4454560 296218653 228186535 872857159 3005618434 3551518893:=aUz.step (k:=430227734) (by kernel_rfl) aNP _ _ (by kernel_rfl) (by kernel_rfl)
theorem aUB:S8 KW (aAh zF0) HW 50 2196777820 3375379330 3096899724 4454560 502324404 228186535 872857159 3005618434:=aUA.step (k:=506948616) (by kernel_rfl) aQF _ _ (by kernel_rfl) (by kernel_rfl)
theorem aUC:S8 KW (aAh zF0) HW 51 172316037 2196777820 3375379330 3096899724 3336809276 502324404 228186535 872857159:=aUB.step (k:=659060556) (by kernel_rfl) aQG _ _ (by kernel_rfl) (by kernel_rfl)
theorem aUD:S8 KW (aAh zF0) HW 52 3798361939 172316037 2196777820 3375379330 345903353 3336809276 502324404 228186535:=aUC.step (k:=883997877) (by kernel_rfl) aQH _ _ (by kernel_rfl) (by kernel_rfl)
theorem aUE:S8 KW (aAh zF0) HW 53 3876681316 3798361939 172316037 2196777820 3527507235 345903353 3336809276 502324404:=aUD.step (k:=958139571) (by kernel_rfl) aQI _ _ (by kernel_rfl) (by kernel_rfl)
theorem aUF:S8 KW (aAh zF0) HW 54 1048208192 3876681316 3798361939 172316037 267002057 3527507235 345903353 3336809276:=aUE.step (k:=1322822218) (by kernel_rfl) aQJ _ _ (by kernel_rfl) (by kernel_rfl)
theorem aUG:S8 KW (aAh zF0) HW 55 3748112950 1048208192 3876681316 3798361939 120073345 267002057 3527507235 345903353:=aUF.step (k:=1537002063) (by kernel_rfl) aQK _ _ (by kernel_rfl) (by kernel_rfl)
theorem aUH:S8 KW (aAh zF0) HW 56 3432719604 3748112950 1048208192 3876681316 918970134 120073345 267002057 3527507235:=aUG.step (k:=1747873779) (by kernel_rfl) aQL _ _ (by kernel_rfl) (by kernel_rfl)
theorem aUI:S8 KW (aAh zF0) HW 57 2243565776 3432719604 3748112950 1048208192 373091818 918970134 120073345 267002057:=aUH.step (k:=1955562222) (by kernel_rfl) aQM _ _ (by kernel_rfl) (by kernel_rfl)
theorem aUJ:S8 KW (aAh zF0) HW 58 2286265666 2243565776 3432719604 3748112950 3917149596 373091818 918970134 120073345:=aUI.step (k:=2024104815) (by kernel_rfl) aT1 _ _ (by kernel_rfl) (by kernel_rfl)
theorem aUK:S8 KW (aAh zF0) HW 59 1260053831 2286265666 2243565776 3432719604 4283910481 3917149596 373091818 918970134:=aUJ.step (k:=2227730452) (by kernel_rfl) aT2 _ _ (by kernel_rfl) (by kernel_rfl)
theorem aUL:S8 KW (aAh zF0) HW 60 2415069175 1260053831 2286265666 2243565776 1074367231 4283910481 3917149596 373091818:=aUK.step (k:=2361852424) (by kernel_rfl) aT3 _ _ (by kernel_rfl) (by kernel_rfl)
theorem aUM:S8 KW (aAh zF0) HW 61 3528444304 2415069175 1260053831 2286265666 3159809215 1074367231 4283910481 3917149596:=aUL.step (k:=2428436474) (by kernel_rfl) aT4 _ _ (by kernel_rfl) (by kernel_rfl)
theorem aUN:S8 KW (aAh zF0) HW 62 633627687 3528444304 2415069175 1260053831 2608537663 3159809215 1074367231 4283910481:=aUM.step (k:=2756734187) (by kernel_rfl) aT5 _ _ (by kernel_rfl) (by kernel_rfl)
theorem aUO:S8 KW (aAh zF0) HW 63 1548879332 633627687 3528444304 2415069175 634190263 2608537663 3159809215 1074367231:=aUN.step (k:=3204031479) (by kernel_rfl) aUW _ _ (by kernel_rfl) (by kernel_rfl)
theorem aUP:S8 KW (aAh zF0) HW 64 1884074583 1548879332 633627687 3528444304 1003979282 634190263 2608537663 3159809215:=aUO.step (k:=3329325298) (by kernel_rfl) aUX _ _ (by kernel_rfl) (by kernel_rfl)
theorem z1:aDR KW zF0 HW 0=3663108286∧aDR KW zF0 HW 1=398046313∧aDR KW zF0 HW 2=1647531929∧aDR KW zF0 HW 3=2006957770∧aDR KW zF0 HW 4=2363872401∧aDR KW zF0 HW 5=3235013187∧aDR KW zF0 HW 6=3137272298∧aDR KW zF0 HW 7=406301144:=by
 obtain ⟨h0,h1,h2,h3,h4,h5,h6,h7⟩:=aUP.words
 rw [h0,h1,h2,h3,h4,h5,h6,h7]
 exact ⟨by kernel_rfl,by kernel_rfl,by kernel_rfl,by kernel_rfl,by kernel_rfl,by kernel_rfl,by kernel_rfl,by kernel_rfl⟩
end
section
open Go.RowKit
set_option linter.unusedVariables false
attribute [local go_sem ↓] aAu aAt
theorem aDm {P : Program} (d : Nat) (e : TypeId) (k k' : IntKind) (he : P.underlying e = some (.int k')) (ha : ∀ w : World, (isAgg e).run P w = .ok false w) (xs ys : Array Value) (f g : Nat → Int) (w : World) :
    ∀ is:List Nat,(∀ j ∈ is,xs[j]?=some (.int k (f j))∧ys[j]?=some (.int k (g j)))→(Op.eqItems (d+1) e 1 xs ys is).run P w=.ok (is.all fun j=>f j == g j) w
 | [], _ => by simp [Op.eqItems]
 | i :: is, h => by
  obtain ⟨hx,hy⟩:=h i (List.mem_cons_self ..)
  have ih:=aDm d e k k' he ha xs ys f g w is (fun j hj=>h j (List.mem_cons_of_mem _ hj))
  have px:(part e xs (i*1)).run P w=.ok (.int k (f i)) w:=by rw [Nat.mul_one];simp [part,ha,hx]
  have py:(part e ys (i*1)).run P w=.ok (.int k (g i)) w:=by rw [Nat.mul_one];simp [part,ha,hy]
  simp only [Op.eqItems,Sem.run_bind,px,py,run_equalIn_int w d e k k' _ _ he,Result.andThen_ok]
  cases hfg:(f i == g i)
  ·simp [hfg]
  ·simp [hfg,ih]
theorem aQW (w:World):(isAgg 5).run Tryz.prog w=.ok false w:=by
 unfold isAgg
 rw [Sem.run_bind,run_underlying Tryz.underlying5 w]
 rfl
end
section
open Go.RowKit
set_option linter.unusedVariables false
def byteOf (c:Array Value) (i:Nat):Int:=match c[i]? with
 | some (.int _ z) => z
 | _ => 0
end
end Go.Proofs.YtdjplhibmomajaaGreatDoor
