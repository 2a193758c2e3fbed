/- A part. -/
import Derived.Test.YtdjplhibmomajaaGreatDoorQH
namespace Go.Proofs.YtdjplhibmomajaaGreatDoor
open Go.RowKit
set_option linter.unusedVariables false
set_option linter.unusedSimpArgs false
attribute [local go_sem ↓] aAu aAt aBJ
theorem aIN {m : Nat → Int} {L g C B : Nat} {w : World} (hC : Tab w 1 64 KW) (ho : w.ownsRow B 5 1 (.slice (some ⟨g, 0, none⟩) L C) L (bl m L)) (hr : ∀ j, j < L → 0 ≤ m j ∧ m j < 256) (hL : L ≤ 140737488351232) :
    Calls Tryz.prog 53 #[.slice (some ⟨g,0,none⟩) L C] w fun e w'=>e=.returned (.agg (vs .u8 32 (aCH KW HW m L)))∧Below w.heap.size w w':=by
 obtain ⟨h1,h2,h3,h4,h5⟩:=aBG ho
 exact aD4 KW m (some ⟨g,0,none⟩) L C w hC (.inr (.inr ⟨g,0,rfl,h3,h4,h2,fun j hj=>by rw [Nat.zero_add];exact h5 j hj⟩)) hr hL
theorem aGQ {W w':World} {B n:Nat} {v:Value} {xs:List Value} (ho:W.ownsRow B 5 1 v n xs) (hg:W.grownBy w' v.ownBlock) {k:Nat} {c:Array Value} {t:TypeId} (h:W.heap[k]?=some (.cells c t)) (ht:t≠5):w'.heap[k]?=some (.cells c t):=by
 have hk:=(Array.getElem?_eq_some_iff.1 h).1
 refine (hg.block k hk (fun e=>?_)).trans h
 rcases ho.2 with ⟨h1,_⟩ | ⟨g,cap,cur,h1,_,h2,_⟩
 ·subst h1
  cases e
 ·subst h1
  obtain rfl:k=g:=by simpa [Value.ownBlock] using e
  rw [h] at h2
  cases h2
  exact ht rfl
theorem aJQ (W : World) (B g0 b n C : Nat) (m : Nat → Int) (hown : W.ownsRow B 5 1 (.slice (some ⟨g0, 0, none⟩) 0 0) 0 []) (hb : ∀ j, j < n → W.cell? ⟨b, j, none⟩ = some (.int .u8 (m j))) (hB : B ≤ W.heap.size) (hn : n ≤ 64) (h0 : 0 < n) (ty : TypeId) :
    ∃ g C' w',(aDO ty (.slice (some ⟨g0,0,none⟩) 0 0) (.slice (some ⟨b,0,none⟩) n C)).run Tryz.prog W=.ok (.slice (some ⟨g,0,none⟩) n C') w'∧w'.ownsRow B 5 1 (.slice (some ⟨g,0,none⟩) n C') n (bl m n)∧Below B W w'∧∀ (k:Nat) (c:Array Value) (t:TypeId),W.heap[k]?=some (.cells c t)→t≠5→w'.heap[k]?=some (.cells c t):=by
 obtain ⟨i,hi,hz0,hz1,hz2⟩:=info_parts aDb
 obtain ⟨v',w',hr,ho',hg,_⟩:=run_append_own_at (P:=Tryz.prog) W B 39 ty 5 i (.int .u8 0) 1 1 Tryz.underlying39 hi hz0 hz1 hz2 rfl (by decide) _ 0 [] hown ⟨b,0,none⟩ n C (bl m n) (by rw [aAV,Nat.mul_one])
  (fun j u hj=>by
   obtain ⟨h1,rfl⟩:=aBD m n j u hj
   rw [addr_add,Nat.zero_add]
   exact hb j h1) (aC0 m n) (by unfold maxLen;omega) (by omega) hB
 rw [Nat.zero_add,List.nil_append] at ho'
 obtain ⟨g,C',rfl⟩:=aC3 ho' h0
 exact ⟨g,C',w',hr,ho',below_grown (Below.refl _ _) hown hB hg,fun k c t h ht=>aGQ hown hg h ht⟩
theorem aI8 (W : World) (B g C n b : Nat) (m c : Nat → Int) (ho : W.ownsRow B 5 1 (.slice (some ⟨g, 0, none⟩) n C) n (bl m n)) (hb : ∀ j, j < 4 → W.cell? ⟨b, j, none⟩ = some (.int .u8 (c j))) (hm : ∀ j, j < 4 → m (n + j) = c j) (hB : B ≤ W.heap.size) (hn : n ≤ 64) (ty : TypeId) :
    ∃ g' C' w',(aDO ty (.slice (some ⟨g,0,none⟩) n C) (.slice (some ⟨b,0,none⟩) 4 8)).run Tryz.prog W=.ok (.slice (some ⟨g',0,none⟩) (n+4) C') w'∧w'.ownsRow B 5 1 (.slice (some ⟨g',0,none⟩) (n+4) C') (n+4) (bl m (n+4))∧Below B W w'∧∀ (k:Nat) (c:Array Value) (t:TypeId),W.heap[k]?=some (.cells c t)→t≠5→w'.heap[k]?=some (.cells c t):=by
 obtain ⟨i,hi,hz0,hz1,hz2⟩:=info_parts aDb
 obtain ⟨v',w',hr,ho',hg,_⟩:=run_append_own_at (P:=Tryz.prog) W B 39 ty 5 i (.int .u8 0) 1 1 Tryz.underlying39 hi hz0 hz1 hz2 rfl (by decide) _ n (bl m n) ho ⟨b,0,none⟩ 4 8 (bl c 4) (by rw [aAV])
  (fun j u hj=>by
   obtain ⟨h1,rfl⟩:=aBD c 4 j u hj
   rw [addr_add,Nat.zero_add]
   exact hb j h1) (aC0 c 4) (by unfold maxLen;omega) (by omega) hB
 rw [aNW m c n 4 hm] at ho'
 obtain ⟨g',C',rfl⟩:=aC3 ho' (by omega)
 exact ⟨g',C',w',hr,ho',below_grown (Below.refl _ _) ho hB hg,fun k c t h ht=>aGQ ho hg h ht⟩
set_option maxRecDepth 20000 in
set_option maxHeartbeats 2000000 in
theorem aJt (s : Nat → Int) (r n i : Int) (w : World) (hs : ∀ j, j < 32 → 0 ≤ s j ∧ s j < 256) (hr : 0 ≤ r ∧ r < 256) (h0 : 0 ≤ i) (h1 : i < n) (hn : n ≤ 4294967296) (hC : Tab w 1 64 KW) :
    Calls Tryz.prog 135 #[.int .i64 r,.int .u64 i,.int .u64 n,.agg (vs .u8 32 s)] w fun e w'=>e=.returned (.int .u64 (rdV s r n i))∧Below w.heap.size w w':=by
 obtain ⟨W0,hW0⟩:∃ W,w.alloc (.cells (vs .u8 32 s) 24)=W:=⟨_,rfl⟩
 have r0:W0.heap[w.heap.size]?=some (.cells (vs .u8 32 s) 24):=by rw [←hW0];exact aA2 rfl
 have hB0:Below w.heap.size w W0:=by rw [←hW0];exact (Below.refl _ _).alloc (Nat.le_refl _) _
 have z0:w.heap.size < W0.heap.size:=(Array.getElem?_eq_some_iff.1 r0).1
 obtain ⟨X,hX⟩:∃ X,aCH KW HW (sd1 s r) 33=X:=⟨_,rfl⟩
 have e0:pvN s r=aFx (X 0) (X 1) (X 2) (X 3) (X 4) (X 5) (X 6) (X 7):=by unfold pvN;rw [hX]
 have hXb:∀ j,0≤X j∧X j≤255:=fun j=>by have:=aBU KW HW (sd1 s r) 33 j;rw [hX] at this;omega
 obtain ⟨hb0,hb1⟩:=aOC s r
 obtain ⟨p0,p1⟩:=aNc s r (n:=n) (by omega)
 have hev:rdV s r n i=if rdB s r (mx i (fl i n (pv s r n)))=true then fl i n (pv s r n) else i:=rfl
 have hpn:pv s r n=pvN s r % n:=rfl
 obtain ⟨PN,hPN⟩:∃ P,pvN s r=P:=⟨_,rfl⟩
 rw [hPN] at hb0 hb1 hpn
 obtain ⟨P,hP⟩:∃ P,pv s r n=P:=⟨_,rfl⟩
 rw [hP] at hev p0 p1 hpn
 have hread:∀ (W:World) b t,W.heap[b]?=some (.cells (vs .u8 32 X) t)→Calls Tryz.prog 140 #[.slice (some ⟨b,0,none⟩) 8 32] W fun e w'=>e=.returned (.tuple #[.int .u64 PN,.int .i64 0])∧w'=W:=fun W b t h=>by
  rw [←hPN,e0]
  exact aOG b 0 32 _ _ _ _ _ _ _ _ W (aA8 h 0 (by omega)) (hXb 0).1 (hXb 0).2 (aA8 h 1 (by omega)) (hXb 1).1 (hXb 1).2 (aA8 h 2 (by omega)) (hXb 2).1 (hXb 2).2 (aA8 h 3 (by omega)) (hXb 3).1 (hXb 3).2 (aA8 h 4 (by omega)) (hXb 4).1 (hXb 4).2 (aA8 h 5 (by omega)) (hXb 5).1 (hXb 5).2 (aA8 h 6 (by omega)) (hXb 6).1 (hXb 6).2 (aA8 h 7 (by omega)) (hXb 7).1 (hXb 7).2
 obtain ⟨f0,f1⟩:=aPj h0 h1 p0 p1
 have hfl:(P+n - i) % n=fl i n P:=rfl
 obtain ⟨F,hF⟩:∃ F,fl i n P=F:=⟨_,rfl⟩
 rw [hF] at hev f0 f1 hfl
 obtain ⟨M,hM⟩:∃ M,mx i F=M:=⟨_,rfl⟩
 rw [hM] at hev
 have m0:0≤M∧M < 4294967296:=by rw [←hM];unfold mx;split<;>omega
 obtain ⟨m0,m1⟩:=m0
 have hmx:(if i < F then F else i)=M:=hM
 obtain ⟨Q,hQ⟩:∃ Q,M / 256=Q:=⟨_,rfl⟩
 have q0:0≤Q:=by omega
 have q1:Q < 18446744073709551616:=by omega
 have hbt:=fun W:World=>aJm Q W q0 q1
 obtain ⟨Y,hY⟩:∃ Y,aQe s r Q=Y:=⟨_,rfl⟩
 have hYb:∀ j,0≤Y j∧Y j < 256:=fun j=>by rw [←hY];exact aBU ..
 have hbit:rdB s r M=aNU Y M:=by unfold rdB;rw [hQ,hY]
 rw [hbit] at hev
 obtain ⟨J,hJ⟩:∃ J:Nat,M % 256 / 8=(J:Int):=⟨(M % 256 / 8).toNat,by omega⟩
 obtain ⟨K,hK⟩:∃ K:Nat,M % 8=(K:Int):=⟨(M % 8).toNat,by omega⟩
 have hJ':J < 32:=by omega
 have hK':K < 8:=by omega
 have hbe:=aNV Y M (fun j _=>hYb j) m0 K (by omega)
 rw [hJ,Int.toNat_natCast] at hbe
 obtain ⟨b,hb⟩:∃ b,aNU Y M=b:=⟨_,rfl⟩
 rw [hb] at hbe hev
 have hYJ:=hYb J
 have hsum1:∀ (W:World) g C B,Below w.heap.size w W→W.ownsRow B 5 1 (.slice (some ⟨g,0,none⟩) 33 C) 33 (bl (sd1 s r) 33)→Calls Tryz.prog 53 #[.slice (some ⟨g,0,none⟩) 33 C] W fun e w'=>e=.returned (.agg (vs .u8 32 X))∧Below W.heap.size W w':=fun W g C B h1 h2=>by
  rw [←hX]
  exact aIN (hC.below h1) h2 (fun j _=>aLt hs hr j) (by omega)
 have hsum2:∀ (W:World) g C,Below w.heap.size w W→W.ownsRow w.heap.size 5 1 (.slice (some ⟨g,0,none⟩) 37 C) 37 (bl (sd2 s r Q) 37)→Calls Tryz.prog 53 #[.slice (some ⟨g,0,none⟩) 37 C] W fun e w'=>e=.returned (.agg (vs .u8 32 Y))∧Below W.heap.size W w':=fun W g C h1 h2=>by
  rw [←hY]
  exact aIN (hC.below h1) h2 (fun j _=>aOI hs hr Q j) (by omega)
 have hby:Bys W0 (some ⟨w.heap.size,0,none⟩) 32 32 (sd1 s r):=.inr (.inr ⟨w.heap.size,0,rfl,by omega,by omega,z0,fun j hj=>by rw [Nat.zero_add,aA8 r0 j hj];unfold sd1;rw [if_pos hj]⟩)
 have hr32:r=sd1 s r 32:=by unfold sd1;rw [if_neg (by omega)]
 have rw8:IntKind.u8.wrap r=r:=by rw [IntKind.wrap_u8];omega
 have pm:PN % n=P:=hpn.symm
 have v24:=fun W=>aBc W (fun _=>0) X
 have z:=aAj
 have v8:=fun W=>aBY W (fun _=>0) (bt Q)
 have z8:=aDn
 have EV:=hid hev
 have HREAD:=hid hread
 have HBT:=hid hbt
 have HSUM1:=hid hsum1
 have HSUM2:=hid hsum2
 have HBY:=hid hby
 have HR32:=hid hr32
 have HB0:=hid hB0
 have HW0:=hid hW0
 have HMX:=hid hmx
 have HQ:=hid hQ
 have HBE:=hid hbe
 have HJ:=hid hJ
 have HK:=hid hK
 clear hev hread hbt hsum1 hsum2 hby hr32 hB0 hW0 hmx hQ hbe hJ hK r0 hs hC hX e0 hXb hPN hP hpn hF hM hY hYb hbit hb
 go_enter Tryz.func135,Tryz.ntmps135
 go_upto_region 1 with fail
 rw [HW0.out]
 clear HW0
 go_upto_region 2 with (first
  | (at_builtin; (refine aAb _ rfl _ _ rfl W0.heap.size _ 0 [] rfl (World.ownsRow_made _ #[] 0 (Nat.le_refl _) (Nat.zero_le _) rfl) _ 32 32 (sd1 s r) rfl (HBY.out.below (by go_grown)) (by omega) (by simp) ?_); intro v1 w1 ho1 hg1; rw [Nat.zero_add, List.nil_append] at ho1)
  | (at_builtin; (refine wpList_append_byte _ rfl _ _ rfl W0.heap.size v1 32 (sd1 s r) r rfl ho1 rfl HR32.out (by omega) (by have := hg1.size; simp at this; omega) ?_); intro g2 C2 w2 ho2 hg2))
 have hb1':Below W0.heap.size W0 w1:=below_grown ((Below.refl _ _).alloc (Nat.le_refl _) _) (World.ownsRow_made _ #[] 0 (Nat.le_refl _) (Nat.zero_le _) rfl) (by simp) hg1
 have hb2:Below W0.heap.size W0 w2:=below_grown hb1' ho1 hb1'.size hg2
 have hB2:Below w.heap.size w w2:=HB0.out.trans (hb2.mono (by omega))
 have HB2:=hid hB2
 have HO2:=hid ho2
 clear hg1 hg2 ho1 ho2 hb1' hb2 hB2 HBY HR32
 go_upto_region 3 with (go_at_call 53;refine (HSUM1.out w2 g2 C2 _ HB2.out HO2.out).mono ?_;rintro e w3 ⟨rfl,hb3⟩)
 obtain ⟨W3,hW3⟩:∃ W,w3.alloc (.cells (vs .u8 32 X) 24)=W:=⟨_,rfl⟩
 rw [hW3]
 have hz2:=HB2.out.size
 have hz3:=hb3.size
 have r3:W3.heap[w3.heap.size]?=some (.cells (vs .u8 32 X) 24):=by rw [←hW3];exact aA2 rfl
 have hD3:Below w2.heap.size w2 W3:=by rw [←hW3];exact hb3.alloc hz3 _
 have hB3:Below w.heap.size w W3:=HB2.out.trans (hD3.mono hz2)
 obtain ⟨h1o,h2o,h3o,h4o,h5o⟩:=aBG HO2.out
 have hc3:∀ j,j < 33→W3.cell? ⟨g2,j,none⟩=some (.int .u8 (sd1 s r j)):=fun j hj=>(aAk hD3 h2o).trans (h5o j hj)
 have hg3:g2 < W3.heap.size:=Nat.lt_of_lt_of_le h2o hD3.size
 obtain ⟨y,ey⟩:∃ y,w3.heap.size=y:=⟨_,rfl⟩
 rw [ey] at r3 ⊢
 have HR3:=hid r3
 have HB3:=hid hB3
 have HC3:=hid hc3
 have HG3:=hid hg3
 clear r3 hB3 hc3 hg3 hW3 ey hb3 hz2 hz3 hD3 h1o h2o h3o h4o h5o HO2 HB2 HSUM1 v24
 go_upto_region 6 with (go_at_call 140;refine (HREAD.out _ _ _ HR3.out).mono ?_;rintro e w4 ⟨rfl,hw4⟩;obtain rfl:=hw4.symm)
 have hM2:M=F∧i < F∨M=i∧¬ i < F:=by
  have:=HMX.out
  by_cases hlt:i < F
  ·rw [if_pos hlt] at this;exact .inl ⟨this.symm,hlt⟩
  ·rw [if_neg hlt] at this;exact .inr ⟨this.symm,hlt⟩
 clear HMX hw4
 rcases hM2 with ⟨hMe,hlt⟩ | ⟨hMe,hlt⟩
 ·subst hMe
  have mq:=HQ.out
  go_upto_region 9 with (go_at_call 90;refine (HBT.out W3).mono ?_;rintro e w5 ⟨rfl,hb5⟩)
  obtain ⟨W4,hW4⟩:∃ W,w5.alloc (.cells (vs .u8 8 (bt Q)) 135)=W:=⟨_,rfl⟩
  rw [hW4]
  have hz5:=hb5.size
  have hz3:=HB3.out.size
  have rn:W4.heap[w5.heap.size]?=some (.cells (vs .u8 8 (bt Q)) 135):=by rw [←hW4];exact aA2 rfl
  have hD4:Below W3.heap.size W3 W4:=by rw [←hW4];exact hb5.alloc hz5 _
  have hB4:Below w.heap.size w W4:=HB3.out.trans (hD4.mono hz3)
  have zn:w5.heap.size < W4.heap.size:=(Array.getElem?_eq_some_iff.1 rn).1
  obtain ⟨y2,ey2⟩:∃ y,w5.heap.size=y:=⟨_,rfl⟩
  rw [ey2] at rn zn ⊢
  have hz4:=hB4.size
  have hap1:∀ (W:World) g0,Below W4.heap.size W4 W→W.ownsRow W4.heap.size 5 1 (.slice (some ⟨g0,0,none⟩) 0 0) 0 []→∀ ty,∃g C w',(aDO ty (.slice (some ⟨g0,0,none⟩) 0 0) (.slice (some ⟨g2,0,none⟩) 33 C2)).run Tryz.prog W=.ok (.slice (some ⟨g,0,none⟩) 33 C) w'∧w'.ownsRow W4.heap.size 5 1 (.slice (some ⟨g,0,none⟩) 33 C) 33 (bl (sd1 s r) 33)∧Below W4.heap.size W w'∧∀ (k:Nat) (c:Array Value) (t:TypeId),W.heap[k]?=some (.cells c t)→t≠5→w'.heap[k]?=some (.cells c t):=fun W g0 hW ho ty =>
   aJQ W W4.heap.size g0 g2 33 C2 (sd1 s r) ho (fun j hj=>(aAk (hD4.trans (hW.mono hD4.size)) HG3.out).trans (HC3.out j hj)) hW.size (by omega) (by omega) ty
  have hap2:∀ (W:World) g C,Below W4.heap.size W4 W→W.ownsRow W4.heap.size 5 1 (.slice (some ⟨g,0,none⟩) 33 C) 33 (bl (sd1 s r) 33)→∀ ty,∃g' C' w',(aDO ty (.slice (some ⟨g,0,none⟩) 33 C) (.slice (some ⟨y2,0,none⟩) 4 8)).run Tryz.prog W=.ok (.slice (some ⟨g',0,none⟩) 37 C') w'∧w'.ownsRow w.heap.size 5 1 (.slice (some ⟨g',0,none⟩) 37 C') 37 (bl (sd2 s r Q) 37)∧Below W4.heap.size W w'∧∀ (k:Nat) (c:Array Value) (t:TypeId),W.heap[k]?=some (.cells c t)→t≠5→w'.heap[k]?=some (.cells c t):=fun W g C hW ho ty=>by
   rw [aCE (m:=sd1 s r) (m':=sd2 s r Q) (fun j hj=>by unfold sd2;rw [if_pos hj])] at ho
   obtain ⟨g',C',w',h1,h2,h3,h4⟩:=aI8 W W4.heap.size g C 33 y2 (sd2 s r Q) (bt Q) ho (fun j hj=>aA8 ((hW.block _ zn).trans rn) j (by omega)) (fun j hj=>by unfold sd2;rw [if_neg (by omega),show 33+j - 33=j by omega]) hW.size (by omega) ty
   exact ⟨g',C',w',h1,h2.mono hz4,h3,h4⟩
  have HAP1:=hid hap1
  have HAP2:=hid hap2
  have HB4:=hid hB4
  have HD2:=hid (Below.refl W4.heap.size W4)
  have hdr:Below W4.heap.size W4 W4.drew:=(Below.refl _ _).drew
  have HDR:=hid hdr
  clear hap1 hap2 hB4 hdr rn zn hD4 hW4 ey2 hb5 hz5 hz4 HB3 HBT HREAD HR3 HC3 v8 z8
  refine wp_region_noPanic ?_
  refine wp_region_held_drew (S:=fun _=>True) (by kernel_rfl) (trivial) (fun hHeld=>?_)
  refine tk 1 (v:=?v1) ?y1 hHeld ?r1
  case y1=>intro w hSw;go_simp;try with_reducible rfl
  refine tk 3 (v:=?v2) ?y2 hHeld ?r2
  case y2=>intro w hSw;go_simp;try with_reducible rfl
  try simp only [Act.put,z_1,z_2,z_3,z_4,z_5,z_6,z_7]
  obtain ⟨V0,eV0⟩:∃ V,W4.drew=V:=⟨_,rfl⟩
  have hbc:Below W4.heap.size W4 V0:=by rw [←eV0];exact HDR.out
  rw [eV0]
  clear eV0
  refine wpAnyH_ready (rs:=[0,6]) (by kernel_rfl) (by simp) ?_
  refine AllReadyH.cons rfl (fun K hK=>?_) (AllReadyH.cons rfl (fun K hK=>?_) AllReadyH.nil)
  ·go_simp
   refine hK.out _ _ (trivial) (fun hHeld=>?_)
   clear hK K
   try simp only [Act.put,z_1,z_2,z_3,z_4,z_5,z_6,z_7]
   have hoN:(V0.alloc (.cells #[] 5)).ownsRow W4.heap.size 5 1 (.slice (some ⟨V0.heap.size,0,none⟩) 0 0) 0 []:=World.ownsRow_made _ #[] 0 hbc.size (Nat.zero_le _) rfl
   have hbN:=hbc.alloc hbc.size (.cells #[] 5)
   obtain ⟨V0a,eN⟩:∃ W,V0.alloc (.cells #[] 5)=W:=⟨_,rfl⟩
   rw [eN] at hoN hbN ⊢
   obtain ⟨g0,eg0⟩:∃ y,V0.heap.size=y:=⟨_,rfl⟩
   rw [eg0] at hoN ⊢
   clear eN eg0 hbc
   have hbc:=hbN
   have ho:=hoN
   clear hbN hoN
   refine wpAnyH_ready (rs:=[2,6]) (by kernel_rfl) (by simp) ?_
   refine AllReadyH.cons rfl (fun K hK=>?_) (AllReadyH.cons rfl (fun K hK=>?_) AllReadyH.nil)
   ·obtain ⟨g5,C5,V1a,hap,hoN,hbN,hoth⟩:=HAP1.out V0a g0 hbc ho 39
    refine aAo _ _ rfl _ _ _ _ rfl rfl hap ?_
    refine hK.out _ _ (trivial) (fun hHeld=>?_)
    clear hK K
    try simp only [Act.put,z_1,z_2,z_3,z_4,z_5,z_6,z_7]
    replace hbN:=hbc.trans hbN
    clear hbc ho hap hoth
    have hbc:=hbN
    have ho:=hoN
    clear hbN hoN
    refine wpAnyH_ready (rs:=[4,6]) (by kernel_rfl) (by simp) ?_
    refine AllReadyH.cons rfl (fun K hK=>?_) (AllReadyH.cons rfl (fun K hK=>?_) AllReadyH.nil)
    ·obtain ⟨g6,C6,V2a,hap,hoN,hbN,hoth⟩:=HAP2.out V1a g5 C5 hbc ho 39
     refine aAo _ _ rfl _ _ _ _ rfl rfl hap ?_
     refine hK.out _ _ (trivial) (fun hHeld=>?_)
     clear hK K
     try simp only [Act.put,z_1,z_2,z_3,z_4,z_5,z_6,z_7]
     replace hbN:=hbc.trans hbN
     clear hbc ho hap hoth
     have hbc:=hbN
     have ho:=hoN
     clear hbN hoN
     refine wpAnyH_ready (rs:=[5,6]) (by kernel_rfl) (by simp) ?_
     refine AllReadyH.cons rfl (fun K hK=>?_) (AllReadyH.cons rfl (fun K hK=>?_) AllReadyH.nil)
     ·go_simp
      refine (HSUM2.out V2a g6 C6 (HB4.out.trans (hbc.mono HB4.out.size)) ho).mono ?_
      rintro e V3a ⟨rfl,hbN⟩
      dsimp only
      refine hK.out _ _ (trivial) (fun hHeld=>?_)
      clear hK K
      try simp only [Act.put,z_1,z_2,z_3,z_4,z_5,z_6,z_7]
      replace hbN:=hbc.trans (hbN.mono hbc.size)
      clear hbc ho
      have hbc:=hbN
      clear hbN
      refine wpAnyH_ready (rs:=[6]) (by kernel_rfl) (by simp) ?_
      refine AllReadyH.cons rfl (fun K hK=>?_) AllReadyH.nil
      go_simp
      refine hK.out _ _ (trivial) (fun hHeld=>?_)
      clear hK K
      try simp only [Act.put,z_1,z_2,z_3,z_4,z_5,z_6,z_7]
      have ryN:(V3a.alloc (.cells (vs .u8 32 fun _=>0) 24)).heap[V3a.heap.size]?=some (.cells (vs .u8 32 fun _=>0) 24):=aA2 rfl
      have hbN:=hbc.alloc hbc.size (.cells (vs .u8 32 fun _=>0) 24)
      obtain ⟨V4b,eN⟩:∃ W,V3a.alloc (.cells (vs .u8 32 fun _=>0) 24)=W:=⟨_,rfl⟩
      rw [eN] at ryN hbN ⊢
      obtain ⟨y4,ey4⟩:∃ y,V3a.heap.size=y:=⟨_,rfl⟩
      rw [ey4] at ryN ⊢
      have hy4:W4.heap.size≤y4:=ey4 ▸ hbc.size
      clear eN ey4 hbc
      have hbc:=hbN
      have ry:=ryN
      clear hbN ryN
      refine wpAnyH_ready (rs:=[7]) (by kernel_rfl) (by simp) ?_
      refine AllReadyH.cons rfl (fun K hK=>?_) AllReadyH.nil
      have v7:=aAv ry Y
      go_simp
      refine hK.out _ _ (trivial) (fun hHeld=>?_)
      clear hK K
      try simp only [Act.put,z_1,z_2,z_3,z_4,z_5,z_6,z_7]
      refine wpAnyH_done (by kernel_rfl) ?_ _
      refine NoPanic.normal ?_
      have r8:=aA4 (c:=vs .u8 32 Y) ry
      have hz8:=HB4.out.size
      have hB8:=aA6 (HB4.out.trans (hbc.mono hz8)) (show w.heap.size≤y4 by omega) (vs .u8 32 Y)
      obtain ⟨W8,hW8⟩:∃ W,World.setRow V4b y4 (vs .u8 32 Y)=W:=⟨_,rfl⟩
      rw [hW8] at r8 hB8 ⊢
      have c8:=aA8 r8 J hJ'
      have hbe:=HBE.out
      have hJ:=HJ.out
      have hK:=HK.out
      have j1:(0:Int)≤(J:Int):=by omega
      have j2:(J:Int) < 32:=by omega
      have k1:(0:Int)≤(K:Int):=by omega
      have k2:(K:Int) < 8:=by omega
      have HB8:=hid hB8
      clear hB8 r8 hW8 HB4 HAP1 HAP2 HSUM2 HQ mq ry hbc
      cases b
      all_goals
       go_wp2
       go_ret
       exact ⟨aB9 (by rw [EV.out];simp),HB8.out⟩
     ·go_simp
      refine hK.out _ _ (trivial) (fun hHeld=>?_)
      clear hK K
      try simp only [Act.put,z_1,z_2,z_3,z_4,z_5,z_6,z_7]
      have ryN:(V2a.alloc (.cells (vs .u8 32 fun _=>0) 24)).heap[V2a.heap.size]?=some (.cells (vs .u8 32 fun _=>0) 24):=aA2 rfl
      have hbN:=hbc.alloc hbc.size (.cells (vs .u8 32 fun _=>0) 24)
      have hoN:=ho.alloc (.cells (vs .u8 32 fun _=>0) 24)
      obtain ⟨V3b,eN⟩:∃ W,V2a.alloc (.cells (vs .u8 32 fun _=>0) 24)=W:=⟨_,rfl⟩
      rw [eN] at ryN hbN hoN ⊢
      obtain ⟨y4,ey4⟩:∃ y,V2a.heap.size=y:=⟨_,rfl⟩
      rw [ey4] at ryN ⊢
      have hy4:W4.heap.size≤y4:=ey4 ▸ hbc.size
      clear eN ey4 hbc
      have hbc:=hbN
      have ry:=ryN
      clear hbN ryN
      clear ho
      have ho:=hoN
      clear hoN
      refine wpAnyH_ready (rs:=[5]) (by kernel_rfl) (by simp) ?_
      refine AllReadyH.cons rfl (fun K hK=>?_) AllReadyH.nil
      go_simp
      refine (HSUM2.out V3b g6 C6 (HB4.out.trans (hbc.mono HB4.out.size)) ho).mono ?_
      rintro e V3ay ⟨rfl,hbN⟩
      dsimp only
      refine hK.out _ _ (trivial) (fun hHeld=>?_)
      clear hK K
      try simp only [Act.put,z_1,z_2,z_3,z_4,z_5,z_6,z_7]
      have ryN:=(hbN.block _ (Array.getElem?_eq_some_iff.1 ry).1).trans ry
      clear ry
      have ry:=ryN
      clear ryN
      replace hbN:=hbc.trans (hbN.mono hbc.size)
      clear hbc ho
      have hbc:=hbN
      clear hbN
      refine wpAnyH_ready (rs:=[7]) (by kernel_rfl) (by simp) ?_
      refine AllReadyH.cons rfl (fun K hK=>?_) AllReadyH.nil
      have v7:=aAv ry Y
      go_simp
      refine hK.out _ _ (trivial) (fun hHeld=>?_)
      clear hK K
      try simp only [Act.put,z_1,z_2,z_3,z_4,z_5,z_6,z_7]
      refine wpAnyH_done (by kernel_rfl) ?_ _
      refine NoPanic.normal ?_
      have r8:=aA4 (c:=vs .u8 32 Y) ry
      have hz8:=HB4.out.size
      have hB8:=aA6 (HB4.out.trans (hbc.mono hz8)) (show w.heap.size≤y4 by omega) (vs .u8 32 Y)
      obtain ⟨W8,hW8⟩:∃ W,World.setRow V3ay y4 (vs .u8 32 Y)=W:=⟨_,rfl⟩
      rw [hW8] at r8 hB8 ⊢
      have c8:=aA8 r8 J hJ'
      have hbe:=HBE.out
      have hJ:=HJ.out
      have hK:=HK.out
      have j1:(0:Int)≤(J:Int):=by omega
      have j2:(J:Int) < 32:=by omega
      have k1:(0:Int)≤(K:Int):=by omega
      have k2:(K:Int) < 8:=by omega
      have HB8:=hid hB8
      clear hB8 r8 hW8 HB4 HAP1 HAP2 HSUM2 HQ mq ry hbc
      cases b
      all_goals
       go_wp2
       go_ret
       exact ⟨aB9 (by rw [EV.out];simp),HB8.out⟩
    ·go_simp
     refine hK.out _ _ (trivial) (fun hHeld=>?_)
     clear hK K
     try simp only [Act.put,z_1,z_2,z_3,z_4,z_5,z_6,z_7]
     have ryN:(V1a.alloc (.cells (vs .u8 32 fun _=>0) 24)).heap[V1a.heap.size]?=some (.cells (vs .u8 32 fun _=>0) 24):=aA2 rfl
     have hbN:=hbc.alloc hbc.size (.cells (vs .u8 32 fun _=>0) 24)
     have hoN:=ho.alloc (.cells (vs .u8 32 fun _=>0) 24)
     obtain ⟨V2b,eN⟩:∃ W,V1a.alloc (.cells (vs .u8 32 fun _=>0) 24)=W:=⟨_,rfl⟩
     rw [eN] at ryN hbN hoN ⊢
     obtain ⟨y4,ey4⟩:∃ y,V1a.heap.size=y:=⟨_,rfl⟩
     rw [ey4] at ryN ⊢
     have hy4:W4.heap.size≤y4:=ey4 ▸ hbc.size
     clear eN ey4 hbc
     have hbc:=hbN
     have ry:=ryN
     clear hbN ryN
     clear ho
     have ho:=hoN
     clear hoN
     refine wpAnyH_ready (rs:=[4]) (by kernel_rfl) (by simp) ?_
     refine AllReadyH.cons rfl (fun K hK=>?_) AllReadyH.nil
     obtain ⟨g6,C6,V2ay,hap,hoN,hbN,hoth⟩:=HAP2.out V2b g5 C5 hbc ho 39
     refine aAo _ _ rfl _ _ _ _ rfl rfl hap ?_
     refine hK.out _ _ (trivial) (fun hHeld=>?_)
     clear hK K
     try simp only [Act.put,z_1,z_2,z_3,z_4,z_5,z_6,z_7]
     replace hbN:=hbc.trans hbN
     have ryN:=hoth _ _ _ ry (by decide)
     clear ry
     have ry:=ryN
     clear ryN
     clear hbc ho hap hoth
     have hbc:=hbN
     have ho:=hoN
     clear hbN hoN
     refine wpAnyH_ready (rs:=[5]) (by kernel_rfl) (by simp) ?_
     refine AllReadyH.cons rfl (fun K hK=>?_) AllReadyH.nil
     go_simp
     refine (HSUM2.out V2ay g6 C6 (HB4.out.trans (hbc.mono HB4.out.size)) ho).mono ?_
     rintro e V3ay ⟨rfl,hbN⟩
     dsimp only
     refine hK.out _ _ (trivial) (fun hHeld=>?_)
     clear hK K
     try simp only [Act.put,z_1,z_2,z_3,z_4,z_5,z_6,z_7]
     have ryN:=(hbN.block _ (Array.getElem?_eq_some_iff.1 ry).1).trans ry
     clear ry
     have ry:=ryN
     clear ryN
     replace hbN:=hbc.trans (hbN.mono hbc.size)
     clear hbc ho
     have hbc:=hbN
     clear hbN
     refine wpAnyH_ready (rs:=[7]) (by kernel_rfl) (by simp) ?_
     refine AllReadyH.cons rfl (fun K hK=>?_) AllReadyH.nil
     have v7:=aAv ry Y
     go_simp
     refine hK.out _ _ (trivial) (fun hHeld=>?_)
     clear hK K
     try simp only [Act.put,z_1,z_2,z_3,z_4,z_5,z_6,z_7]
     refine wpAnyH_done (by kernel_rfl) ?_ _
     refine NoPanic.normal ?_
     have r8:=aA4 (c:=vs .u8 32 Y) ry
     have hz8:=HB4.out.size
     have hB8:=aA6 (HB4.out.trans (hbc.mono hz8)) (show w.heap.size≤y4 by omega) (vs .u8 32 Y)
     obtain ⟨W8,hW8⟩:∃ W,World.setRow V3ay y4 (vs .u8 32 Y)=W:=⟨_,rfl⟩
     rw [hW8] at r8 hB8 ⊢
     have c8:=aA8 r8 J hJ'
     have hbe:=HBE.out
     have hJ:=HJ.out
     have hK:=HK.out
     have j1:(0:Int)≤(J:Int):=by omega
     have j2:(J:Int) < 32:=by omega
     have k1:(0:Int)≤(K:Int):=by omega
     have k2:(K:Int) < 8:=by omega
     have HB8:=hid hB8
     clear hB8 r8 hW8 HB4 HAP1 HAP2 HSUM2 HQ mq ry hbc
     cases b
     all_goals
      go_wp2
      go_ret
      exact ⟨aB9 (by rw [EV.out];simp),HB8.out⟩
   ·go_simp
    refine hK.out _ _ (trivial) (fun hHeld=>?_)
    clear hK K
    try simp only [Act.put,z_1,z_2,z_3,z_4,z_5,z_6,z_7]
    have ryN:(V0a.alloc (.cells (vs .u8 32 fun _=>0) 24)).heap[V0a.heap.size]?=some (.cells (vs .u8 32 fun _=>0) 24):=aA2 rfl
    have hbN:=hbc.alloc hbc.size (.cells (vs .u8 32 fun _=>0) 24)
    have hoN:=ho.alloc (.cells (vs .u8 32 fun _=>0) 24)
    obtain ⟨V1b,eN⟩:∃ W,V0a.alloc (.cells (vs .u8 32 fun _=>0) 24)=W:=⟨_,rfl⟩
    rw [eN] at ryN hbN hoN ⊢
    obtain ⟨y4,ey4⟩:∃ y,V0a.heap.size=y:=⟨_,rfl⟩
    rw [ey4] at ryN ⊢
    have hy4:W4.heap.size≤y4:=ey4 ▸ hbc.size
    clear eN ey4 hbc
    have hbc:=hbN
    have ry:=ryN
    clear hbN ryN
    clear ho
    have ho:=hoN
    clear hoN
    refine wpAnyH_ready (rs:=[2]) (by kernel_rfl) (by simp) ?_
    refine AllReadyH.cons rfl (fun K hK=>?_) AllReadyH.nil
    obtain ⟨g5,C5,V1ay,hap,hoN,hbN,hoth⟩:=HAP1.out V1b g0 hbc ho 39
    refine aAo _ _ rfl _ _ _ _ rfl rfl hap ?_
    refine hK.out _ _ (trivial) (fun hHeld=>?_)
    clear hK K
    try simp only [Act.put,z_1,z_2,z_3,z_4,z_5,z_6,z_7]
    replace hbN:=hbc.trans hbN
    have ryN:=hoth _ _ _ ry (by decide)
    clear ry
    have ry:=ryN
    clear ryN
    clear hbc ho hap hoth
    have hbc:=hbN
    have ho:=hoN
    clear hbN hoN
    refine wpAnyH_ready (rs:=[4]) (by kernel_rfl) (by simp) ?_
    refine AllReadyH.cons rfl (fun K hK=>?_) AllReadyH.nil
    obtain ⟨g6,C6,V2ay,hap,hoN,hbN,hoth⟩:=HAP2.out V1ay g5 C5 hbc ho 39
    refine aAo _ _ rfl _ _ _ _ rfl rfl hap ?_
    refine hK.out _ _ (trivial) (fun hHeld=>?_)
    clear hK K
    try simp only [Act.put,z_1,z_2,z_3,z_4,z_5,z_6,z_7]
    replace hbN:=hbc.trans hbN
    have ryN:=hoth _ _ _ ry (by decide)
    clear ry
    have ry:=ryN
    clear ryN
    clear hbc ho hap hoth
    have hbc:=hbN
    have ho:=hoN
    clear hbN hoN
    refine wpAnyH_ready (rs:=[5]) (by kernel_rfl) (by simp) ?_
    refine AllReadyH.cons rfl (fun K hK=>?_) AllReadyH.nil
    go_simp
    refine (HSUM2.out V2ay g6 C6 (HB4.out.trans (hbc.mono HB4.out.size)) ho).mono ?_
    rintro e V3ay ⟨rfl,hbN⟩
    dsimp only
    refine hK.out _ _ (trivial) (fun hHeld=>?_)
    clear hK K
    try simp only [Act.put,z_1,z_2,z_3,z_4,z_5,z_6,z_7]
    have ryN:=(hbN.block _ (Array.getElem?_eq_some_iff.1 ry).1).trans ry
    clear ry
    have ry:=ryN
    clear ryN
    replace hbN:=hbc.trans (hbN.mono hbc.size)
    clear hbc ho
    have hbc:=hbN
    clear hbN
    refine wpAnyH_ready (rs:=[7]) (by kernel_rfl) (by simp) ?_
    refine AllReadyH.cons rfl (fun K hK=>?_) AllReadyH.nil
    have v7:=aAv ry Y
    go_simp
    refine hK.out _ _ (trivial) (fun hHeld=>?_)
    clear hK K
    try simp only [Act.put,z_1,z_2,z_3,z_4,z_5,z_6,z_7]
    refine wpAnyH_done (by kernel_rfl) ?_ _
    refine NoPanic.normal ?_
    have r8:=aA4 (c:=vs .u8 32 Y) ry
    have hz8:=HB4.out.size
    have hB8:=aA6 (HB4.out.trans (hbc.mono hz8)) (show w.heap.size≤y4 by omega) (vs .u8 32 Y)
    obtain ⟨W8,hW8⟩:∃ W,World.setRow V3ay y4 (vs .u8 32 Y)=W:=⟨_,rfl⟩
    rw [hW8] at r8 hB8 ⊢
    have c8:=aA8 r8 J hJ'
    have hbe:=HBE.out
    have hJ:=HJ.out
    have hK:=HK.out
    have j1:(0:Int)≤(J:Int):=by omega
    have j2:(J:Int) < 32:=by omega
    have k1:(0:Int)≤(K:Int):=by omega
    have k2:(K:Int) < 8:=by omega
    have HB8:=hid hB8
    clear hB8 r8 hW8 HB4 HAP1 HAP2 HSUM2 HQ mq ry hbc
    cases b
    all_goals
     go_wp2
     go_ret
     exact ⟨aB9 (by rw [EV.out];simp),HB8.out⟩
  ·go_simp
   refine hK.out _ _ (trivial) (fun hHeld=>?_)
   clear hK K
   try simp only [Act.put,z_1,z_2,z_3,z_4,z_5,z_6,z_7]
   have ryN:(V0.alloc (.cells (vs .u8 32 fun _=>0) 24)).heap[V0.heap.size]?=some (.cells (vs .u8 32 fun _=>0) 24):=aA2 rfl
   have hbN:=hbc.alloc hbc.size (.cells (vs .u8 32 fun _=>0) 24)
   obtain ⟨V0b,eN⟩:∃ W,V0.alloc (.cells (vs .u8 32 fun _=>0) 24)=W:=⟨_,rfl⟩
   rw [eN] at ryN hbN ⊢
   obtain ⟨y4,ey4⟩:∃ y,V0.heap.size=y:=⟨_,rfl⟩
   rw [ey4] at ryN ⊢
   have hy4:W4.heap.size≤y4:=ey4 ▸ hbc.size
   clear eN ey4 hbc
   have hbc:=hbN
   have ry:=ryN
   clear hbN ryN
   refine wpAnyH_ready (rs:=[0]) (by kernel_rfl) (by simp) ?_
   refine AllReadyH.cons rfl (fun K hK=>?_) AllReadyH.nil
   go_simp
   refine hK.out _ _ (trivial) (fun hHeld=>?_)
   clear hK K
   try simp only [Act.put,z_1,z_2,z_3,z_4,z_5,z_6,z_7]
   have hoN:(V0b.alloc (.cells #[] 5)).ownsRow W4.heap.size 5 1 (.slice (some ⟨V0b.heap.size,0,none⟩) 0 0) 0 []:=World.ownsRow_made _ #[] 0 hbc.size (Nat.zero_le _) rfl
   have hbN:=hbc.alloc hbc.size (.cells #[] 5)
   have ryN:=(aAc (o:=.cells #[] 5) (Array.getElem?_eq_some_iff.1 ry).1).trans ry
   obtain ⟨V0ay,eN⟩:∃ W,V0b.alloc (.cells #[] 5)=W:=⟨_,rfl⟩
   rw [eN] at hoN hbN ryN ⊢
   obtain ⟨g0,eg0⟩:∃ y,V0b.heap.size=y:=⟨_,rfl⟩
   rw [eg0] at hoN ⊢
   clear eN eg0 hbc
   have hbc:=hbN
   have ho:=hoN
   clear hbN hoN
   clear ry
   have ry:=ryN
   clear ryN
   refine wpAnyH_ready (rs:=[2]) (by kernel_rfl) (by simp) ?_
   refine AllReadyH.cons rfl (fun K hK=>?_) AllReadyH.nil
   obtain ⟨g5,C5,V1ay,hap,hoN,hbN,hoth⟩:=HAP1.out V0ay g0 hbc ho 39
   refine aAo _ _ rfl _ _ _ _ rfl rfl hap ?_
   refine hK.out _ _ (trivial) (fun hHeld=>?_)
   clear hK K
   try simp only [Act.put,z_1,z_2,z_3,z_4,z_5,z_6,z_7]
   replace hbN:=hbc.trans hbN
   have ryN:=hoth _ _ _ ry (by decide)
   clear ry
   have ry:=ryN
   clear ryN
   clear hbc ho hap hoth
   have hbc:=hbN
   have ho:=hoN
   clear hbN hoN
   refine wpAnyH_ready (rs:=[4]) (by kernel_rfl) (by simp) ?_
   refine AllReadyH.cons rfl (fun K hK=>?_) AllReadyH.nil
   obtain ⟨g6,C6,V2ay,hap,hoN,hbN,hoth⟩:=HAP2.out V1ay g5 C5 hbc ho 39
   refine aAo _ _ rfl _ _ _ _ rfl rfl hap ?_
   refine hK.out _ _ (trivial) (fun hHeld=>?_)
   clear hK K
   try simp only [Act.put,z_1,z_2,z_3,z_4,z_5,z_6,z_7]
   replace hbN:=hbc.trans hbN
   have ryN:=hoth _ _ _ ry (by decide)
   clear ry
   have ry:=ryN
   clear ryN
   clear hbc ho hap hoth
   have hbc:=hbN
   have ho:=hoN
   clear hbN hoN
   refine wpAnyH_ready (rs:=[5]) (by kernel_rfl) (by simp) ?_
   refine AllReadyH.cons rfl (fun K hK=>?_) AllReadyH.nil
   go_simp
   refine (HSUM2.out V2ay g6 C6 (HB4.out.trans (hbc.mono HB4.out.size)) ho).mono ?_
   rintro e V3ay ⟨rfl,hbN⟩
   dsimp only
   refine hK.out _ _ (trivial) (fun hHeld=>?_)
   clear hK K
   try simp only [Act.put,z_1,z_2,z_3,z_4,z_5,z_6,z_7]
   have ryN:=(hbN.block _ (Array.getElem?_eq_some_iff.1 ry).1).trans ry
   clear ry
   have ry:=ryN
   clear ryN
   replace hbN:=hbc.trans (hbN.mono hbc.size)
   clear hbc ho
   have hbc:=hbN
   clear hbN
   refine wpAnyH_ready (rs:=[7]) (by kernel_rfl) (by simp) ?_
   refine AllReadyH.cons rfl (fun K hK=>?_) AllReadyH.nil
   have v7:=aAv ry Y
   go_simp
   refine hK.out _ _ (trivial) (fun hHeld=>?_)
   clear hK K
   try simp only [Act.put,z_1,z_2,z_3,z_4,z_5,z_6,z_7]
   refine wpAnyH_done (by kernel_rfl) ?_ _
   refine NoPanic.normal ?_
   have r8:=aA4 (c:=vs .u8 32 Y) ry
   have hz8:=HB4.out.size
   have hB8:=aA6 (HB4.out.trans (hbc.mono hz8)) (show w.heap.size≤y4 by omega) (vs .u8 32 Y)
   obtain ⟨W8,hW8⟩:∃ W,World.setRow V3ay y4 (vs .u8 32 Y)=W:=⟨_,rfl⟩
   rw [hW8] at r8 hB8 ⊢
   have c8:=aA8 r8 J hJ'
   have hbe:=HBE.out
   have hJ:=HJ.out
   have hK:=HK.out
   have j1:(0:Int)≤(J:Int):=by omega
   have j2:(J:Int) < 32:=by omega
   have k1:(0:Int)≤(K:Int):=by omega
   have k2:(K:Int) < 8:=by omega
   have HB8:=hid hB8
   clear hB8 r8 hW8 HB4 HAP1 HAP2 HSUM2 HQ mq ry hbc
   cases b
   all_goals
    go_wp2
    go_ret
    exact ⟨aB9 (by rw [EV.out];simp),HB8.out⟩
 ·subst hMe
  have mq:=HQ.out
  go_upto_region 9 with (go_at_call 90;refine (HBT.out W3).mono ?_;rintro e w5 ⟨rfl,hb5⟩)
  obtain ⟨W4,hW4⟩:∃ W,w5.alloc (.cells (vs .u8 8 (bt Q)) 135)=W:=⟨_,rfl⟩
  rw [hW4]
  have hz5:=hb5.size
  have hz3:=HB3.out.size
  have rn:W4.heap[w5.heap.size]?=some (.cells (vs .u8 8 (bt Q)) 135):=by rw [←hW4];exact aA2 rfl
  have hD4:Below W3.heap.size W3 W4:=by rw [←hW4];exact hb5.alloc hz5 _
  have hB4:Below w.heap.size w W4:=HB3.out.trans (hD4.mono hz3)
  have zn:w5.heap.size < W4.heap.size:=(Array.getElem?_eq_some_iff.1 rn).1
  obtain ⟨y2,ey2⟩:∃ y,w5.heap.size=y:=⟨_,rfl⟩
  rw [ey2] at rn zn ⊢
  have hz4:=hB4.size
  have hap1:∀ (W:World) g0,Below W4.heap.size W4 W→W.ownsRow W4.heap.size 5 1 (.slice (some ⟨g0,0,none⟩) 0 0) 0 []→∀ ty,∃g C w',(aDO ty (.slice (some ⟨g0,0,none⟩) 0 0) (.slice (some ⟨g2,0,none⟩) 33 C2)).run Tryz.prog W=.ok (.slice (some ⟨g,0,none⟩) 33 C) w'∧w'.ownsRow W4.heap.size 5 1 (.slice (some ⟨g,0,none⟩) 33 C) 33 (bl (sd1 s r) 33)∧Below W4.heap.size W w'∧∀ (k:Nat) (c:Array Value) (t:TypeId),W.heap[k]?=some (.cells c t)→t≠5→w'.heap[k]?=some (.cells c t):=fun W g0 hW ho ty =>
   aJQ W W4.heap.size g0 g2 33 C2 (sd1 s r) ho (fun j hj=>(aAk (hD4.trans (hW.mono hD4.size)) HG3.out).trans (HC3.out j hj)) hW.size (by omega) (by omega) ty
  have hap2:∀ (W:World) g C,Below W4.heap.size W4 W→W.ownsRow W4.heap.size 5 1 (.slice (some ⟨g,0,none⟩) 33 C) 33 (bl (sd1 s r) 33)→∀ ty,∃g' C' w',(aDO ty (.slice (some ⟨g,0,none⟩) 33 C) (.slice (some ⟨y2,0,none⟩) 4 8)).run Tryz.prog W=.ok (.slice (some ⟨g',0,none⟩) 37 C') w'∧w'.ownsRow w.heap.size 5 1 (.slice (some ⟨g',0,none⟩) 37 C') 37 (bl (sd2 s r Q) 37)∧Below W4.heap.size W w'∧∀ (k:Nat) (c:Array Value) (t:TypeId),W.heap[k]?=some (.cells c t)→t≠5→w'.heap[k]?=some (.cells c t):=fun W g C hW ho ty=>by
   rw [aCE (m:=sd1 s r) (m':=sd2 s r Q) (fun j hj=>by unfold sd2;rw [if_pos hj])] at ho
   obtain ⟨g',C',w',h1,h2,h3,h4⟩:=aI8 W W4.heap.size g C 33 y2 (sd2 s r Q) (bt Q) ho (fun j hj=>aA8 ((hW.block _ zn).trans rn) j (by omega)) (fun j hj=>by unfold sd2;rw [if_neg (by omega),show 33+j - 33=j by omega]) hW.size (by omega) ty
   exact ⟨g',C',w',h1,h2.mono hz4,h3,h4⟩
  have HAP1:=hid hap1
  have HAP2:=hid hap2
  have HB4:=hid hB4
  have HD2:=hid (Below.refl W4.heap.size W4)
  have hdr:Below W4.heap.size W4 W4.drew:=(Below.refl _ _).drew
  have HDR:=hid hdr
  clear hap1 hap2 hB4 hdr rn zn hD4 hW4 ey2 hb5 hz5 hz4 HB3 HBT HREAD HR3 HC3 v8 z8
  refine wp_region_noPanic ?_
  refine wp_region_held_drew (S:=fun _=>True) (by kernel_rfl) (trivial) (fun hHeld=>?_)
  refine tk 1 (v:=?v3) ?y3 hHeld ?r3
  case y3=>intro w hSw;go_simp;try with_reducible rfl
  refine tk 3 (v:=?v4) ?y4 hHeld ?r4
  case y4=>intro w hSw;go_simp;try with_reducible rfl
  try simp only [Act.put,z_1,z_2,z_3,z_4,z_5,z_6,z_7]
  obtain ⟨V0,eV0⟩:∃ V,W4.drew=V:=⟨_,rfl⟩
  have hbc:Below W4.heap.size W4 V0:=by rw [←eV0];exact HDR.out
  rw [eV0]
  clear eV0
  refine wpAnyH_ready (rs:=[0,6]) (by kernel_rfl) (by simp) ?_
  refine AllReadyH.cons rfl (fun K hK=>?_) (AllReadyH.cons rfl (fun K hK=>?_) AllReadyH.nil)
  ·go_simp
   refine hK.out _ _ (trivial) (fun hHeld=>?_)
   clear hK K
   try simp only [Act.put,z_1,z_2,z_3,z_4,z_5,z_6,z_7]
   have hoN:(V0.alloc (.cells #[] 5)).ownsRow W4.heap.size 5 1 (.slice (some ⟨V0.heap.size,0,none⟩) 0 0) 0 []:=World.ownsRow_made _ #[] 0 hbc.size (Nat.zero_le _) rfl
   have hbN:=hbc.alloc hbc.size (.cells #[] 5)
   obtain ⟨V0a,eN⟩:∃ W,V0.alloc (.cells #[] 5)=W:=⟨_,rfl⟩
   rw [eN] at hoN hbN ⊢
   obtain ⟨g0,eg0⟩:∃ y,V0.heap.size=y:=⟨_,rfl⟩
   rw [eg0] at hoN ⊢
   clear eN eg0 hbc
   have hbc:=hbN
   have ho:=hoN
   clear hbN hoN
   refine wpAnyH_ready (rs:=[2,6]) (by kernel_rfl) (by simp) ?_
   refine AllReadyH.cons rfl (fun K hK=>?_) (AllReadyH.cons rfl (fun K hK=>?_) AllReadyH.nil)
   ·obtain ⟨g5,C5,V1a,hap,hoN,hbN,hoth⟩:=HAP1.out V0a g0 hbc ho 39
    refine aAo _ _ rfl _ _ _ _ rfl rfl hap ?_
    refine hK.out _ _ (trivial) (fun hHeld=>?_)
    clear hK K
    try simp only [Act.put,z_1,z_2,z_3,z_4,z_5,z_6,z_7]
    replace hbN:=hbc.trans hbN
    clear hbc ho hap hoth
    have hbc:=hbN
    have ho:=hoN
    clear hbN hoN
    refine wpAnyH_ready (rs:=[4,6]) (by kernel_rfl) (by simp) ?_
    refine AllReadyH.cons rfl (fun K hK=>?_) (AllReadyH.cons rfl (fun K hK=>?_) AllReadyH.nil)
    ·obtain ⟨g6,C6,V2a,hap,hoN,hbN,hoth⟩:=HAP2.out V1a g5 C5 hbc ho 39
     refine aAo _ _ rfl _ _ _ _ rfl rfl hap ?_
     refine hK.out _ _ (trivial) (fun hHeld=>?_)
     clear hK K
     try simp only [Act.put,z_1,z_2,z_3,z_4,z_5,z_6,z_7]
     replace hbN:=hbc.trans hbN
     clear hbc ho hap hoth
     have hbc:=hbN
     have ho:=hoN
     clear hbN hoN
     refine wpAnyH_ready (rs:=[5,6]) (by kernel_rfl) (by simp) ?_
     refine AllReadyH.cons rfl (fun K hK=>?_) (AllReadyH.cons rfl (fun K hK=>?_) AllReadyH.nil)
     ·go_simp
      refine (HSUM2.out V2a g6 C6 (HB4.out.trans (hbc.mono HB4.out.size)) ho).mono ?_
      rintro e V3a ⟨rfl,hbN⟩
      dsimp only
      refine hK.out _ _ (trivial) (fun hHeld=>?_)
      clear hK K
      try simp only [Act.put,z_1,z_2,z_3,z_4,z_5,z_6,z_7]
      replace hbN:=hbc.trans (hbN.mono hbc.size)
      clear hbc ho
      have hbc:=hbN
      clear hbN
      refine wpAnyH_ready (rs:=[6]) (by kernel_rfl) (by simp) ?_
      refine AllReadyH.cons rfl (fun K hK=>?_) AllReadyH.nil
      go_simp
      refine hK.out _ _ (trivial) (fun hHeld=>?_)
      clear hK K
      try simp only [Act.put,z_1,z_2,z_3,z_4,z_5,z_6,z_7]
      have ryN:(V3a.alloc (.cells (vs .u8 32 fun _=>0) 24)).heap[V3a.heap.size]?=some (.cells (vs .u8 32 fun _=>0) 24):=aA2 rfl
      have hbN:=hbc.alloc hbc.size (.cells (vs .u8 32 fun _=>0) 24)
      obtain ⟨V4b,eN⟩:∃ W,V3a.alloc (.cells (vs .u8 32 fun _=>0) 24)=W:=⟨_,rfl⟩
      rw [eN] at ryN hbN ⊢
      obtain ⟨y4,ey4⟩:∃ y,V3a.heap.size=y:=⟨_,rfl⟩
      rw [ey4] at ryN ⊢
      have hy4:W4.heap.size≤y4:=ey4 ▸ hbc.size
      clear eN ey4 hbc
      have hbc:=hbN
      have ry:=ryN
      clear hbN ryN
      refine wpAnyH_ready (rs:=[7]) (by kernel_rfl) (by simp) ?_
      refine AllReadyH.cons rfl (fun K hK=>?_) AllReadyH.nil
      have v7:=aAv ry Y
      go_simp
      refine hK.out _ _ (trivial) (fun hHeld=>?_)
      clear hK K
      try simp only [Act.put,z_1,z_2,z_3,z_4,z_5,z_6,z_7]
      refine wpAnyH_done (by kernel_rfl) ?_ _
      refine NoPanic.normal ?_
      have r8:=aA4 (c:=vs .u8 32 Y) ry
      have hz8:=HB4.out.size
      have hB8:=aA6 (HB4.out.trans (hbc.mono hz8)) (show w.heap.size≤y4 by omega) (vs .u8 32 Y)
      obtain ⟨W8,hW8⟩:∃ W,World.setRow V4b y4 (vs .u8 32 Y)=W:=⟨_,rfl⟩
      rw [hW8] at r8 hB8 ⊢
      have c8:=aA8 r8 J hJ'
      have hbe:=HBE.out
      have hJ:=HJ.out
      have hK:=HK.out
      have j1:(0:Int)≤(J:Int):=by omega
      have j2:(J:Int) < 32:=by omega
      have k1:(0:Int)≤(K:Int):=by omega
      have k2:(K:Int) < 8:=by omega
      have HB8:=hid hB8
      clear hB8 r8 hW8 HB4 HAP1 HAP2 HSUM2 HQ mq ry hbc
      cases b
      all_goals
       go_wp2
       go_ret
       exact ⟨aB9 (by rw [EV.out];simp),HB8.out⟩
     ·go_simp
      refine hK.out _ _ (trivial) (fun hHeld=>?_)
      clear hK K
      try simp only [Act.put,z_1,z_2,z_3,z_4,z_5,z_6,z_7]
      have ryN:(V2a.alloc (.cells (vs .u8 32 fun _=>0) 24)).heap[V2a.heap.size]?=some (.cells (vs .u8 32 fun _=>0) 24):=aA2 rfl
      have hbN:=hbc.alloc hbc.size (.cells (vs .u8 32 fun _=>0) 24)
      have hoN:=ho.alloc (.cells (vs .u8 32 fun _=>0) 24)
      obtain ⟨V3b,eN⟩:∃ W,V2a.alloc (.cells (vs .u8 32 fun _=>0) 24)=W:=⟨_,rfl⟩
      rw [eN] at ryN hbN hoN ⊢
      obtain ⟨y4,ey4⟩:∃ y,V2a.heap.size=y:=⟨_,rfl⟩
      rw [ey4] at ryN ⊢
      have hy4:W4.heap.size≤y4:=ey4 ▸ hbc.size
      clear eN ey4 hbc
      have hbc:=hbN
      have ry:=ryN
      clear hbN ryN
      clear ho
      have ho:=hoN
      clear hoN
      refine wpAnyH_ready (rs:=[5]) (by kernel_rfl) (by simp) ?_
      refine AllReadyH.cons rfl (fun K hK=>?_) AllReadyH.nil
      go_simp
      refine (HSUM2.out V3b g6 C6 (HB4.out.trans (hbc.mono HB4.out.size)) ho).mono ?_
      rintro e V3ay ⟨rfl,hbN⟩
      dsimp only
      refine hK.out _ _ (trivial) (fun hHeld=>?_)
      clear hK K
      try simp only [Act.put,z_1,z_2,z_3,z_4,z_5,z_6,z_7]
      have ryN:=(hbN.block _ (Array.getElem?_eq_some_iff.1 ry).1).trans ry
      clear ry
      have ry:=ryN
      clear ryN
      replace hbN:=hbc.trans (hbN.mono hbc.size)
      clear hbc ho
      have hbc:=hbN
      clear hbN
      refine wpAnyH_ready (rs:=[7]) (by kernel_rfl) (by simp) ?_
      refine AllReadyH.cons rfl (fun K hK=>?_) AllReadyH.nil
      have v7:=aAv ry Y
      go_simp
      refine hK.out _ _ (trivial) (fun hHeld=>?_)
      clear hK K
      try simp only [Act.put,z_1,z_2,z_3,z_4,z_5,z_6,z_7]
      refine wpAnyH_done (by kernel_rfl) ?_ _
      refine NoPanic.normal ?_
      have r8:=aA4 (c:=vs .u8 32 Y) ry
      have hz8:=HB4.out.size
      have hB8:=aA6 (HB4.out.trans (hbc.mono hz8)) (show w.heap.size≤y4 by omega) (vs .u8 32 Y)
      obtain ⟨W8,hW8⟩:∃ W,World.setRow V3ay y4 (vs .u8 32 Y)=W:=⟨_,rfl⟩
      rw [hW8] at r8 hB8 ⊢
      have c8:=aA8 r8 J hJ'
      have hbe:=HBE.out
      have hJ:=HJ.out
      have hK:=HK.out
      have j1:(0:Int)≤(J:Int):=by omega
      have j2:(J:Int) < 32:=by omega
      have k1:(0:Int)≤(K:Int):=by omega
      have k2:(K:Int) < 8:=by omega
      have HB8:=hid hB8
      clear hB8 r8 hW8 HB4 HAP1 HAP2 HSUM2 HQ mq ry hbc
      cases b
      all_goals
       go_wp2
       go_ret
       exact ⟨aB9 (by rw [EV.out];simp),HB8.out⟩
    ·go_simp
     refine hK.out _ _ (trivial) (fun hHeld=>?_)
     clear hK K
     try simp only [Act.put,z_1,z_2,z_3,z_4,z_5,z_6,z_7]
     have ryN:(V1a.alloc (.cells (vs .u8 32 fun _=>0) 24)).heap[V1a.heap.size]?=some (.cells (vs .u8 32 fun _=>0) 24):=aA2 rfl
     have hbN:=hbc.alloc hbc.size (.cells (vs .u8 32 fun _=>0) 24)
     have hoN:=ho.alloc (.cells (vs .u8 32 fun _=>0) 24)
     obtain ⟨V2b,eN⟩:∃ W,V1a.alloc (.cells (vs .u8 32 fun _=>0) 24)=W:=⟨_,rfl⟩
     rw [eN] at ryN hbN hoN ⊢
     obtain ⟨y4,ey4⟩:∃ y,V1a.heap.size=y:=⟨_,rfl⟩
     rw [ey4] at ryN ⊢
     have hy4:W4.heap.size≤y4:=ey4 ▸ hbc.size
     clear eN ey4 hbc
     have hbc:=hbN
     have ry:=ryN
     clear hbN ryN
     clear ho
     have ho:=hoN
     clear hoN
     refine wpAnyH_ready (rs:=[4]) (by kernel_rfl) (by simp) ?_
     refine AllReadyH.cons rfl (fun K hK=>?_) AllReadyH.nil
     obtain ⟨g6,C6,V2ay,hap,hoN,hbN,hoth⟩:=HAP2.out V2b g5 C5 hbc ho 39
     refine aAo _ _ rfl _ _ _ _ rfl rfl hap ?_
     refine hK.out _ _ (trivial) (fun hHeld=>?_)
     clear hK K
     try simp only [Act.put,z_1,z_2,z_3,z_4,z_5,z_6,z_7]
     replace hbN:=hbc.trans hbN
     have ryN:=hoth _ _ _ ry (by decide)
     clear ry
     have ry:=ryN
     clear ryN
     clear hbc ho hap hoth
     have hbc:=hbN
     have ho:=hoN
     clear hbN hoN
     refine wpAnyH_ready (rs:=[5]) (by kernel_rfl) (by simp) ?_
     refine AllReadyH.cons rfl (fun K hK=>?_) AllReadyH.nil
     go_simp
     refine (HSUM2.out V2ay g6 C6 (HB4.out.trans (hbc.mono HB4.out.size)) ho).mono ?_
     rintro e V3ay ⟨rfl,hbN⟩
     dsimp only
     refine hK.out _ _ (trivial) (fun hHeld=>?_)
     clear hK K
     try simp only [Act.put,z_1,z_2,z_3,z_4,z_5,z_6,z_7]
     have ryN:=(hbN.block _ (Array.getElem?_eq_some_iff.1 ry).1).trans ry
     clear ry
     have ry:=ryN
     clear ryN
     replace hbN:=hbc.trans (hbN.mono hbc.size)
     clear hbc ho
     have hbc:=hbN
     clear hbN
     refine wpAnyH_ready (rs:=[7]) (by kernel_rfl) (by simp) ?_
     refine AllReadyH.cons rfl (fun K hK=>?_) AllReadyH.nil
     have v7:=aAv ry Y
     go_simp
     refine hK.out _ _ (trivial) (fun hHeld=>?_)
     clear hK K
     try simp only [Act.put,z_1,z_2,z_3,z_4,z_5,z_6,z_7]
     refine wpAnyH_done (by kernel_rfl) ?_ _
     refine NoPanic.normal ?_
     have r8:=aA4 (c:=vs .u8 32 Y) ry
     have hz8:=HB4.out.size
     have hB8:=aA6 (HB4.out.trans (hbc.mono hz8)) (show w.heap.size≤y4 by omega) (vs .u8 32 Y)
     obtain ⟨W8,hW8⟩:∃ W,World.setRow V3ay y4 (vs .u8 32 Y)=W:=⟨_,rfl⟩
     rw [hW8] at r8 hB8 ⊢
     have c8:=aA8 r8 J hJ'
     have hbe:=HBE.out
     have hJ:=HJ.out
     have hK:=HK.out
     have j1:(0:Int)≤(J:Int):=by omega
     have j2:(J:Int) < 32:=by omega
     have k1:(0:Int)≤(K:Int):=by omega
     have k2:(K:Int) < 8:=by omega
     have HB8:=hid hB8
     clear hB8 r8 hW8 HB4 HAP1 HAP2 HSUM2 HQ mq ry hbc
     cases b
     all_goals
      go_wp2
      go_ret
      exact ⟨aB9 (by rw [EV.out];simp),HB8.out⟩
   ·go_simp
    refine hK.out _ _ (trivial) (fun hHeld=>?_)
    clear hK K
    try simp only [Act.put,z_1,z_2,z_3,z_4,z_5,z_6,z_7]
    have ryN:(V0a.alloc (.cells (vs .u8 32 fun _=>0) 24)).heap[V0a.heap.size]?=some (.cells (vs .u8 32 fun _=>0) 24):=aA2 rfl
    have hbN:=hbc.alloc hbc.size (.cells (vs .u8 32 fun _=>0) 24)
    have hoN:=ho.alloc (.cells (vs .u8 32 fun _=>0) 24)
    obtain ⟨V1b,eN⟩:∃ W,V0a.alloc (.cells (vs .u8 32 fun _=>0) 24)=W:=⟨_,rfl⟩
    rw [eN] at ryN hbN hoN ⊢
    obtain ⟨y4,ey4⟩:∃ y,V0a.heap.size=y:=⟨_,rfl⟩
    rw [ey4] at ryN ⊢
    have hy4:W4.heap.size≤y4:=ey4 ▸ hbc.size
    clear eN ey4 hbc
    have hbc:=hbN
    have ry:=ryN
    clear hbN ryN
    clear ho
    have ho:=hoN
    clear hoN
    refine wpAnyH_ready (rs:=[2]) (by kernel_rfl) (by simp) ?_
    refine AllReadyH.cons rfl (fun K hK=>?_) AllReadyH.nil
    obtain ⟨g5,C5,V1ay,hap,hoN,hbN,hoth⟩:=HAP1.out V1b g0 hbc ho 39
    refine aAo _ _ rfl _ _ _ _ rfl rfl hap ?_
    refine hK.out _ _ (trivial) (fun hHeld=>?_)
    clear hK K
    try simp only [Act.put,z_1,z_2,z_3,z_4,z_5,z_6,z_7]
    replace hbN:=hbc.trans hbN
    have ryN:=hoth _ _ _ ry (by decide)
    clear ry
    have ry:=ryN
    clear ryN
    clear hbc ho hap hoth
    have hbc:=hbN
    have ho:=hoN
    clear hbN hoN
    refine wpAnyH_ready (rs:=[4]) (by kernel_rfl) (by simp) ?_
    refine AllReadyH.cons rfl (fun K hK=>?_) AllReadyH.nil
    obtain ⟨g6,C6,V2ay,hap,hoN,hbN,hoth⟩:=HAP2.out V1ay g5 C5 hbc ho 39
    refine aAo _ _ rfl _ _ _ _ rfl rfl hap ?_
    refine hK.out _ _ (trivial) (fun hHeld=>?_)
    clear hK K
    try simp only [Act.put,z_1,z_2,z_3,z_4,z_5,z_6,z_7]
    replace hbN:=hbc.trans hbN
    have ryN:=hoth _ _ _ ry (by decide)
    clear ry
    have ry:=ryN
    clear ryN
    clear hbc ho hap hoth
    have hbc:=hbN
    have ho:=hoN
    clear hbN hoN
    refine wpAnyH_ready (rs:=[5]) (by kernel_rfl) (by simp) ?_
    refine AllReadyH.cons rfl (fun K hK=>?_) AllReadyH.nil
    go_simp
    refine (HSUM2.out V2ay g6 C6 (HB4.out.trans (hbc.mono HB4.out.size)) ho).mono ?_
    rintro e V3ay ⟨rfl,hbN⟩
    dsimp only
    refine hK.out _ _ (trivial) (fun hHeld=>?_)
    clear hK K
    try simp only [Act.put,z_1,z_2,z_3,z_4,z_5,z_6,z_7]
    have ryN:=(hbN.block _ (Array.getElem?_eq_some_iff.1 ry).1).trans ry
    clear ry
    have ry:=ryN
    clear ryN
    replace hbN:=hbc.trans (hbN.mono hbc.size)
    clear hbc ho
    have hbc:=hbN
    clear hbN
    refine wpAnyH_ready (rs:=[7]) (by kernel_rfl) (by simp) ?_
    refine AllReadyH.cons rfl (fun K hK=>?_) AllReadyH.nil
    have v7:=aAv ry Y
    go_simp
    refine hK.out _ _ (trivial) (fun hHeld=>?_)
    clear hK K
    try simp only [Act.put,z_1,z_2,z_3,z_4,z_5,z_6,z_7]
    refine wpAnyH_done (by kernel_rfl) ?_ _
    refine NoPanic.normal ?_
    have r8:=aA4 (c:=vs .u8 32 Y) ry
    have hz8:=HB4.out.size
    have hB8:=aA6 (HB4.out.trans (hbc.mono hz8)) (show w.heap.size≤y4 by omega) (vs .u8 32 Y)
    obtain ⟨W8,hW8⟩:∃ W,World.setRow V3ay y4 (vs .u8 32 Y)=W:=⟨_,rfl⟩
    rw [hW8] at r8 hB8 ⊢
    have c8:=aA8 r8 J hJ'
    have hbe:=HBE.out
    have hJ:=HJ.out
    have hK:=HK.out
    have j1:(0:Int)≤(J:Int):=by omega
    have j2:(J:Int) < 32:=by omega
    have k1:(0:Int)≤(K:Int):=by omega
    have k2:(K:Int) < 8:=by omega
    have HB8:=hid hB8
    clear hB8 r8 hW8 HB4 HAP1 HAP2 HSUM2 HQ mq ry hbc
    cases b
    all_goals
     go_wp2
     go_ret
     exact ⟨aB9 (by rw [EV.out];simp),HB8.out⟩
  ·go_simp
   refine hK.out _ _ (trivial) (fun hHeld=>?_)
   clear hK K
   try simp only [Act.put,z_1,z_2,z_3,z_4,z_5,z_6,z_7]
   have ryN:(V0.alloc (.cells (vs .u8 32 fun _=>0) 24)).heap[V0.heap.size]?=some (.cells (vs .u8 32 fun _=>0) 24):=aA2 rfl
   have hbN:=hbc.alloc hbc.size (.cells (vs .u8 32 fun _=>0) 24)
   obtain ⟨V0b,eN⟩:∃ W,V0.alloc (.cells (vs .u8 32 fun _=>0) 24)=W:=⟨_,rfl⟩
   rw [eN] at ryN hbN ⊢
   obtain ⟨y4,ey4⟩:∃ y,V0.heap.size=y:=⟨_,rfl⟩
   rw [ey4] at ryN ⊢
   have hy4:W4.heap.size≤y4:=ey4 ▸ hbc.size
   clear eN ey4 hbc
   have hbc:=hbN
   have ry:=ryN
   clear hbN ryN
   refine wpAnyH_ready (rs:=[0]) (by kernel_rfl) (by simp) ?_
   refine AllReadyH.cons rfl (fun K hK=>?_) AllReadyH.nil
   go_simp
   refine hK.out _ _ (trivial) (fun hHeld=>?_)
   clear hK K
   try simp only [Act.put,z_1,z_2,z_3,z_4,z_5,z_6,z_7]
   have hoN:(V0b.alloc (.cells #[] 5)).ownsRow W4.heap.size 5 1 (.slice (some ⟨V0b.heap.size,0,none⟩) 0 0) 0 []:=World.ownsRow_made _ #[] 0 hbc.size (Nat.zero_le _) rfl
   have hbN:=hbc.alloc hbc.size (.cells #[] 5)
   have ryN:=(aAc (o:=.cells #[] 5) (Array.getElem?_eq_some_iff.1 ry).1).trans ry
   obtain ⟨V0ay,eN⟩:∃ W,V0b.alloc (.cells #[] 5)=W:=⟨_,rfl⟩
   rw [eN] at hoN hbN ryN ⊢
   obtain ⟨g0,eg0⟩:∃ y,V0b.heap.size=y:=⟨_,rfl⟩
   rw [eg0] at hoN ⊢
   clear eN eg0 hbc
   have hbc:=hbN
   have ho:=hoN
   clear hbN hoN
   clear ry
   have ry:=ryN
   clear ryN
   refine wpAnyH_ready (rs:=[2]) (by kernel_rfl) (by simp) ?_
   refine AllReadyH.cons rfl (fun K hK=>?_) AllReadyH.nil
   obtain ⟨g5,C5,V1ay,hap,hoN,hbN,hoth⟩:=HAP1.out V0ay g0 hbc ho 39
   refine aAo _ _ rfl _ _ _ _ rfl rfl hap ?_
   refine hK.out _ _ (trivial) (fun hHeld=>?_)
   clear hK K
   try simp only [Act.put,z_1,z_2,z_3,z_4,z_5,z_6,z_7]
   replace hbN:=hbc.trans hbN
   have ryN:=hoth _ _ _ ry (by decide)
   clear ry
   have ry:=ryN
   clear ryN
   clear hbc ho hap hoth
   have hbc:=hbN
   have ho:=hoN
   clear hbN hoN
   refine wpAnyH_ready (rs:=[4]) (by kernel_rfl) (by simp) ?_
   refine AllReadyH.cons rfl (fun K hK=>?_) AllReadyH.nil
   obtain ⟨g6,C6,V2ay,hap,hoN,hbN,hoth⟩:=HAP2.out V1ay g5 C5 hbc ho 39
   refine aAo _ _ rfl _ _ _ _ rfl rfl hap ?_
   refine hK.out _ _ (trivial) (fun hHeld=>?_)
   clear hK K
   try simp only [Act.put,z_1,z_2,z_3,z_4,z_5,z_6,z_7]
   replace hbN:=hbc.trans hbN
   have ryN:=hoth _ _ _ ry (by decide)
   clear ry
   have ry:=ryN
   clear ryN
   clear hbc ho hap hoth
   have hbc:=hbN
   have ho:=hoN
   clear hbN hoN
   refine wpAnyH_ready (rs:=[5]) (by kernel_rfl) (by simp) ?_
   refine AllReadyH.cons rfl (fun K hK=>?_) AllReadyH.nil
   go_simp
   refine (HSUM2.out V2ay g6 C6 (HB4.out.trans (hbc.mono HB4.out.size)) ho).mono ?_
   rintro e V3ay ⟨rfl,hbN⟩
   dsimp only
   refine hK.out _ _ (trivial) (fun hHeld=>?_)
   clear hK K
   try simp only [Act.put,z_1,z_2,z_3,z_4,z_5,z_6,z_7]
   have ryN:=(hbN.block _ (Array.getElem?_eq_some_iff.1 ry).1).trans ry
   clear ry
   have ry:=ryN
   clear ryN
   replace hbN:=hbc.trans (hbN.mono hbc.size)
   clear hbc ho
   have hbc:=hbN
   clear hbN
   refine wpAnyH_ready (rs:=[7]) (by kernel_rfl) (by simp) ?_
   refine AllReadyH.cons rfl (fun K hK=>?_) AllReadyH.nil
   have v7:=aAv ry Y
   go_simp
   refine hK.out _ _ (trivial) (fun hHeld=>?_)
   clear hK K
   try simp only [Act.put,z_1,z_2,z_3,z_4,z_5,z_6,z_7]
   refine wpAnyH_done (by kernel_rfl) ?_ _
   refine NoPanic.normal ?_
   have r8:=aA4 (c:=vs .u8 32 Y) ry
   have hz8:=HB4.out.size
   have hB8:=aA6 (HB4.out.trans (hbc.mono hz8)) (show w.heap.size≤y4 by omega) (vs .u8 32 Y)
   obtain ⟨W8,hW8⟩:∃ W,World.setRow V3ay y4 (vs .u8 32 Y)=W:=⟨_,rfl⟩
   rw [hW8] at r8 hB8 ⊢
   have c8:=aA8 r8 J hJ'
   have hbe:=HBE.out
   have hJ:=HJ.out
   have hK:=HK.out
   have j1:(0:Int)≤(J:Int):=by omega
   have j2:(J:Int) < 32:=by omega
   have k1:(0:Int)≤(K:Int):=by omega
   have k2:(K:Int) < 8:=by omega
   have HB8:=hid hB8
   clear hB8 r8 hW8 HB4 HAP1 HAP2 HSUM2 HQ mq ry hbc
   cases b
   all_goals
    go_wp2
    go_ret
    exact ⟨aB9 (by rw [EV.out];simp),HB8.out⟩
set_option maxRecDepth 20000 in
set_option maxHeartbeats 1000000 in
theorem aLi (s : Nat → Int) (i n : Int) (w : World) (hs : ∀ j, j < 32 → 0 ≤ s j ∧ s j < 256) (h0 : 0 ≤ i) (h1 : i < n) (hn : n ≤ 4294967296) (hC : Tab w 1 64 KW) :
    Calls Tryz.prog 122 #[.int .u64 i,.int .u64 n,.agg (vs .u8 32 s)] w fun e w'=>e=.returned (.tuple #[.int .u64 (plV s n 6 i),.int .i64 0])∧Below w.heap.size w w':=by
 obtain ⟨W0,hW0⟩:∃ W,w.alloc (.cells (vs .u8 32 s) 24)=W:=⟨_,rfl⟩
 have r0:W0.heap[w.heap.size]?=some (.cells (vs .u8 32 s) 24):=by rw [←hW0];exact aA2 rfl
 have hB0:Below w.heap.size w W0:=by rw [←hW0];exact (Below.refl _ _).alloc (Nat.le_refl _) _
 have z0:w.heap.size < W0.heap.size:=(Array.getElem?_eq_some_iff.1 r0).1
 have hrd:∀ (k:Nat) (x:Int) (W:World),k < 6→0≤x→x < n→Below W0.heap.size W0 W→Calls Tryz.prog 135 #[.int .i64 ((k:Int)),.int .u64 x,.int .u64 n,.agg (vs .u8 32 s)] W fun e w'=>e=.returned (.int .u64 (rdV s ((k:Int)) n x))∧Below W.heap.size W w' :=
  fun k x W hk x0 x1 hW=>aJt s ((k:Int)) n x W hs (by omega) x0 x1 hn ((hC.below hB0).below hW)
 have hl:∀ W:World,Below W0.heap.size W0 W→(aDZ ⟨w.heap.size,0,none⟩).run Tryz.prog W=.ok (.agg (vs .u8 32 s)) W:=fun W h=>aAU ((h.block _ z0).trans r0)
 have hpl:=fun k=>aGT s h0 h1 k
 have d1:(n == 0)=false:=by simp;omega
 have d2:decide (4294967296 < n)=false:=by simp;omega
 have d3:decide (n≤i)=false:=by simp;omega
 have HRD:=hid hrd
 have HL:=hid hl
 have HPL:=hid hpl
 have HB0:=hid hB0
 have HW0:=hid hW0
 clear hrd hl hpl hB0 hW0 r0 hs hC
 go_enter Tryz.func122,Tryz.ntmps122
 go_upto_region 1 with fail
 rw [HW0.out]
 clear HW0
 go_wp2
 go_loopw [8,0] (fun c x wr=>∃ k:Nat,k≤6∧c=.int .i64 ((k:Int))∧x=.int .u64 (plV s n k i)∧Below W0.heap.size W0 wr) (fun c _ _=>6 - (intOf c).toNat)
 case atStart=>exact ⟨0,by omega,rfl,rfl,Below.refl _ _⟩
 case round =>
  obtain ⟨k,hk,rfl,rfl,hw⟩:=hrel
  obtain ⟨b0,b1⟩:=HPL.out k
  have er:plV s n (k+1) i=rdV s ((k:Int)) n (plV s n k i):=rfl
  obtain ⟨X,hX⟩:∃ X,plV s n k i=X:=⟨_,rfl⟩
  by_cases hk6:k < 6
  ·rw [hX] at b0 b1 er ⊢
   have hc:=HRD.out k X wr hk6 b0 b1 hw
   have l0:=HL.out wr hw
   have k1:(k:Int) < 6:=by omega
   have k2:(0:Int)≤(k:Int):=by omega
   have k3:(0:Int)≤5 - (k:Int):=by omega
   have HC:=hid hc
   have HW:=hid hw
   have ER:=hid er
   clear hc hw er hX
   go_wp2_with (go_at_call 135;refine HC.out.mono ?_;rintro e w1 ⟨rfl,hb1⟩)
   have hz:=HW.out.size
   go_roundw
   case rel=>exact ⟨k+1,by omega,by go_num,by rw [ER.out],HW.out.trans (hb1.mono hz)⟩
   case measure=>simp [intOf];omega
  ·obtain rfl:k=6:=by omega
   have HW:=hid hw
   clear hw er hX
   go_wp2
   go_ret2
   exact ⟨rfl,HB0.out.trans (HW.out.mono (by omega))⟩
end Go.Proofs.YtdjplhibmomajaaGreatDoor
