/- A part. -/
import Derived.Test.YtdjplhibmomajaaGreatDoorQG
import Derived.Deep.Onto
namespace Go.Proofs.YtdjplhibmomajaaGreatDoor
open Go.RowKit
set_option linter.unusedVariables false
set_option linter.unusedSimpArgs false
section
open Go.RowKit
set_option linter.unusedVariables false
set_option linter.unusedSimpArgs false
theorem aEM {P : Program} {ops : Array Oper} {rest : List Oper} {o : Oper} {a : Act} {w : World} {Q : Exit → Act → World → Prop} (hgd : o.guard = none) (s x : Operand)
    (ho:o.op=.call { callee:=.builtin .append,args:=#[s,x],argTypes:=#[39,39] }) (ws wx v:Value) (w':World) (hs:a.eval s=ws) (hx:a.eval x=wx)
    (hrun:(aDO o.type ws wx).run P w=.ok v w') (h:wpList P ops Q rest (a.put o.dst v) w'):wpList P ops Q (o :: rest) a w :=
 wpList_plain hgd fun K hK=>aAo s x ho ws wx v w' hs hx hrun (hK _ _ h)
theorem aLD {m : Nat → Int} {L g C B : Nat} {w : World} (hS : Sh w) (ho : w.ownsRow B 5 1 (.slice (some ⟨g, 0, none⟩) L C) L (bl m L)) (hr : ∀ j, j < L → 0 ≤ m j ∧ m j < 256) (hL : L < 1152921504606846976) :
    Calls Tryz.prog 113 #[.slice (some ⟨g,0,none⟩) L C] w fun e w'=>e=.returned (.agg (vs .u8 32 (aCH KW HW m L)))∧Below w.heap.size w w':=by
 obtain ⟨h1,h2,h3,h4,h5⟩:=aBG ho
 exact aHZ KW HW m L C g 0 w hS.1 hS.2 aHo (fun j hj=>by rw [Nat.zero_add];exact h5 j hj) hr h2 hL h3 h4
theorem aHA {B:Nat} {W w':World} (hg:W.grownBy w' none) (hB:B≤W.heap.size):Below B W w' :=
 ⟨hg.os,hg.tape,hg.output,hg.size,fun k hk=>hg.block k (by omega) (fun e=>by cases e)⟩
theorem aNW (m c:Nat→Int) (n k:Nat) (hm:∀ j,j < k→m (n+j)=c j):bl m n++bl c k=bl m (n+k):=by
 unfold bl
 rw [List.range_add,List.map_append,List.map_map]
 congr 1
 refine List.map_congr_left fun j hj=>?_
 show Value.int .u8 (c j)=Value.int .u8 (m (n+j))
 rw [hm j (List.mem_range.1 hj)]
theorem aJT (W : World) (b : Nat) (s : Nat → Int) (r : Int) (hb : ∀ j, j < 32 → W.cell? ⟨b, j, none⟩ = some (.int .u8 (s j))) (hl : b < W.heap.size) (ty : TypeId) :
    ∃ g C w',(aDO ty (.slice (some ⟨b,0,none⟩) 32 32) (.slice (some ⟨W.heap.size,0,none⟩) 1 1)).run Tryz.prog (W.alloc (.cells #[.int .u8 r] 5))=.ok (.slice (some ⟨g,0,none⟩) 33 C) w'∧w'.ownsRow W.heap.size 5 1 (.slice (some ⟨g,0,none⟩) 33 C) 33 (bl (sd1 s r) 33)∧Below W.heap.size W w':=by
 obtain ⟨i,hi,hz0,hz1,hz2⟩:=info_parts aDb
 have hB:Below W.heap.size W (W.alloc (.cells #[.int .u8 r] 5)):=(Below.refl _ _).alloc (Nat.le_refl _) _
 obtain ⟨v',w',hr,ho,hg⟩:=run_append_arg_grows (P:=Tryz.prog) (W.alloc (.cells #[.int .u8 r] 5)) 39 ty 5 i (.int .u8 0) 1 1 Tryz.underlying39 hi hz0 hz1 hz2 rfl (by decide) ⟨b,0,none⟩ 32 32 (bl s 32) (by rw [aAV])
  (fun j u hj=>by
   obtain ⟨h1,rfl⟩:=aBD s 32 j u hj
   rw [addr_add,Nat.zero_add,aAk hB hl]
   exact hb j h1) ⟨W.heap.size,0,none⟩ 1 1 [.int .u8 r] rfl (cell_one_new _ _ _) (by omega) (by unfold maxLen;omega) (by omega)
 have e:bl s 32++[.int .u8 r]=bl (sd1 s r) 33:=by
  rw [aCE (m:=s) (m':=sd1 s r) (fun j hj=>by unfold sd1;rw [if_pos hj])]
  exact aFL (sd1 s r) 32 r (by unfold sd1;rw [if_neg (by omega)])
 rw [e] at ho
 obtain ⟨g,C,rfl⟩:=aC3 ho (by omega)
 exact ⟨g,C,w',hr,ho.mono (by simp),hB.trans (aHA hg (by simp))⟩
theorem aOT (W : World) (B g C n b : Nat) (m c : Nat → Int) (ho : W.ownsRow B 5 1 (.slice (some ⟨g, 0, none⟩) n C) n (bl m n)) (hb : ∀ j, j < 4 → W.cell? ⟨b, j, none⟩ = some (.int .u8 (c j))) (hm : ∀ j, j < 4 → m (n + j) = c j) (hB : B ≤ W.heap.size) (hn : n ≤ 64) (ty : TypeId) :
    ∃ g' C' w',(aDO ty (.slice (some ⟨g,0,none⟩) n C) (.slice (some ⟨b,0,none⟩) 4 8)).run Tryz.prog W=.ok (.slice (some ⟨g',0,none⟩) (n+4) C') w'∧w'.ownsRow B 5 1 (.slice (some ⟨g',0,none⟩) (n+4) C') (n+4) (bl m (n+4))∧Below B W w':=by
 obtain ⟨i,hi,hz0,hz1,hz2⟩:=info_parts aDb
 obtain ⟨v',w',hr,ho',hg,_⟩:=run_append_own_at (P:=Tryz.prog) W B 39 ty 5 i (.int .u8 0) 1 1 Tryz.underlying39 hi hz0 hz1 hz2 rfl (by decide) _ n (bl m n) ho ⟨b,0,none⟩ 4 8 (bl c 4) (by rw [aAV])
  (fun j u hj=>by
   obtain ⟨h1,rfl⟩:=aBD c 4 j u hj
   rw [addr_add,Nat.zero_add]
   exact hb j h1) (aC0 c 4) (by unfold maxLen;omega) (by omega) hB
 rw [aNW m c n 4 hm] at ho'
 obtain ⟨g',C',rfl⟩:=aC3 ho' (by omega)
 exact ⟨g',C',w',hr,ho',below_grown (Below.refl _ _) ho hB hg⟩
attribute [local go_sem ↓] aAu aAt aBJ
set_option maxRecDepth 20000 in
set_option maxHeartbeats 1000000 in
theorem aKV (s : Nat → Int) (r n : Int) (w : World) (hs : ∀ j, j < 32 → 0 ≤ s j ∧ s j < 256) (hr : 0 ≤ r ∧ r < 256) (hn : 0 < n) (hn2 : n < 18446744073709551616) (hS : Sh w) :
    Calls Tryz.prog 142 #[.int .u64 n,.agg (vs .u8 32 s),.int .u8 r] w fun e w'=>e=.returned (.int .u64 (pv s r n))∧Below w.heap.size w w':=by
 obtain ⟨W0,hW0⟩:∃ W,w.alloc (.cells (vs .u8 32 s) 24)=W:=⟨_,rfl⟩
 have r0:W0.heap[w.heap.size]?=some (.cells (vs .u8 32 s) 24):=by rw [←hW0];exact aA2 rfl
 have hB0:Below w.heap.size w W0:=by rw [←hW0];exact (Below.refl _ _).alloc (Nat.le_refl _) _
 have z0:w.heap.size < W0.heap.size:=(Array.getElem?_eq_some_iff.1 r0).1
 have hap:=aJT W0 w.heap.size s r (fun j hj=>aA8 r0 j hj) z0
 obtain ⟨X,hX⟩:∃ X,aCH KW HW (sd1 s r) 33=X:=⟨_,rfl⟩
 have hb:=aOC s r
 have e0:pvN s r=aFx (X 0) (X 1) (X 2) (X 3) (X 4) (X 5) (X 6) (X 7):=by unfold pvN;rw [hX]
 have hXb:∀ j,0≤X j∧X j≤255:=fun j=>by have:=aBU KW HW (sd1 s r) 33 j;rw [hX] at this;omega
 obtain ⟨P,hP⟩:∃ P,pvN s r=P:=⟨_,rfl⟩
 have hsum:∀ (W:World) g C,Below w.heap.size w W→W.ownsRow W0.heap.size 5 1 (.slice (some ⟨g,0,none⟩) 33 C) 33 (bl (sd1 s r) 33)→Calls Tryz.prog 113 #[.slice (some ⟨g,0,none⟩) 33 C] W fun e w'=>e=.returned (.agg (vs .u8 32 X))∧Below W.heap.size W w':=fun W g C h1 h2=>by
  rw [←hX]
  exact aLD (hS.below h1) h2 (fun j _=>aLt hs hr j) (by omega)
 have hread:∀ (W:World) b t,W.heap[b]?=some (.cells (vs .u8 32 X) t)→Calls Tryz.prog 145 #[.slice (some ⟨b,0,none⟩) 8 32] W fun e w'=>e=.returned (.tuple #[.int .u64 P,.int .i64 0])∧w'=W:=fun W b t h=>by
  rw [←hP,e0]
  exact aSo b 0 32 _ _ _ _ _ _ _ _ W (aA8 h 0 (by omega)) (hXb 0).1 (hXb 0).2 (aA8 h 1 (by omega)) (hXb 1).1 (hXb 1).2 (aA8 h 2 (by omega)) (hXb 2).1 (hXb 2).2 (aA8 h 3 (by omega)) (hXb 3).1 (hXb 3).2 (aA8 h 4 (by omega)) (hXb 4).1 (hXb 4).2 (aA8 h 5 (by omega)) (hXb 5).1 (hXb 5).2 (aA8 h 6 (by omega)) (hXb 6).1 (hXb 6).2 (aA8 h 7 (by omega)) (hXb 7).1 (hXb 7).2
 have ev:pv s r n=P % n:=by unfold pv;rw [hP]
 rw [hP] at hb
 obtain ⟨p0,p1⟩:=hb
 have v24:=fun W=>aBc W (fun _=>0) X
 have z:=aAj
 have EV:=hid ev
 have HAP:=hid hap
 have HSUM:=hid hsum
 have HREAD:=hid hread
 have HB0:=hid hB0
 have HW0:=hid hW0
 clear ev hap hsum hread hB0 hW0 r0 e0 hXb hP hX hs hr hS
 go_enter Tryz.func142,Tryz.ntmps142
 go_upto_region 1 with fail
 rw [HW0.out]
 clear HW0
 go_upto_region 2 with (first
  | (at_builtin; obtain ⟨g1, C1, w1, hap1, ho1, hb1⟩ := HAP.out 39; refine aEM rfl _ _ rfl _ _ _ _ rfl rfl hap1 ?_)
  | (go_at_call 113; refine (HSUM.out w1 g1 C1 (HB0.out.trans (hb1.mono (by omega))) ho1).mono ?_; rintro e w2 ⟨rfl, hb2⟩))
 obtain ⟨W3,hW3⟩:∃ W,w2.alloc (.cells (vs .u8 32 X) 24)=W:=⟨_,rfl⟩
 have hz1:=hb1.size
 have r3:W3.heap[w2.heap.size]?=some (.cells (vs .u8 32 X) 24):=by rw [←hW3];exact aA2 rfl
 have hB3:Below w.heap.size w W3:=by rw [←hW3];exact (HB0.out.trans ((hb1.mono (by omega)).trans (hb2.mono (by omega)))).alloc (by have:=hb2.size;omega) _
 rw [hW3]
 obtain ⟨y,ey⟩:∃ y,w2.heap.size=y:=⟨_,rfl⟩
 rw [ey] at r3 ⊢
 have HR3:=hid r3
 have HB3:=hid hB3
 clear r3 hB3 hW3 ey hb1 hb2 hz1 ho1 hap1 v24 z HAP HSUM HB0
 go_wp2_with (go_at_call 145;refine (HREAD.out _ _ _ HR3.out).mono ?_;rintro e w4 ⟨rfl,hw4⟩;obtain rfl:=hw4.symm)
 go_ret
 exact ⟨aB9 EV.out.symm,HB3.out⟩
set_option maxRecDepth 20000 in
set_option maxHeartbeats 1000000 in
theorem aJF (s : Nat → Int) (r p : Int) (w : World) (hs : ∀ j, j < 32 → 0 ≤ s j ∧ s j < 256) (hr : 0 ≤ r ∧ r < 256) (h0 : 0 ≤ p) (h1 : p < 18446744073709551616) (hS : Sh w) :
    Calls Tryz.prog 144 #[.int .u64 p,.agg (vs .u8 32 s),.int .u8 r] w fun e w'=>e=.returned (.agg (vs .u8 32 (aQe s r (p / 256))))∧Below w.heap.size w w':=by
 obtain ⟨W0,hW0⟩:∃ W,(w.alloc (.cells (vs .u8 32 s) 24)).alloc (.cells (vs .u8 32 fun _=>0) 24)=W:=⟨_,rfl⟩
 have r0:W0.heap[w.heap.size]?=some (.cells (vs .u8 32 s) 24):=by rw [←hW0];exact (aAc (by simp)).trans (aA2 rfl)
 have r1:W0.heap[w.heap.size+1]?=some (.cells (vs .u8 32 fun _=>0) 24):=by rw [←hW0];exact aA2 (by simp)
 have hB0:Below w.heap.size w W0:=by rw [←hW0];exact ((Below.refl _ _).alloc (Nat.le_refl _) _).alloc (by simp) _
 have z0:w.heap.size+1 < W0.heap.size:=(Array.getElem?_eq_some_iff.1 r1).1
 obtain ⟨Q,hQ⟩:∃ Q,p / 256=Q:=⟨_,rfl⟩
 have q0:0≤Q:=by omega
 have q1:Q < 18446744073709551616:=by omega
 have hbt:=fun W:World=>aJ6 Q W q0 q1
 obtain ⟨X,hX⟩:∃ X,aQe s r Q=X:=⟨_,rfl⟩
 have hsum:∀ (W:World) g C,Below w.heap.size w W→W.ownsRow W0.heap.size 5 1 (.slice (some ⟨g,0,none⟩) 37 C) 37 (bl (sd2 s r Q) 37)→Calls Tryz.prog 113 #[.slice (some ⟨g,0,none⟩) 37 C] W fun e w'=>e=.returned (.agg (vs .u8 32 X))∧Below W.heap.size W w':=fun W g C h1 h2=>by
  rw [←hX]
  exact aLD (hS.below h1) h2 (fun j _=>aOI hs hr Q j) (by omega)
 have v8:=fun W=>aBY W (fun _=>0) (bt Q)
 have z:=aDn
 have zr:=aAj
 rw [hQ,hX]
 have HSUM:=hid hsum
 have HBT:=hid hbt
 have HB0:=hid hB0
 have HW0:=hid hW0
 have HR0:=hid (And.intro r0 r1)
 clear hsum hbt hB0 hW0 r0 r1 hs hr hS hX
 go_enter Tryz.func144,Tryz.ntmps144
 go_upto_region 1 with fail
 rw [HW0.out]
 clear HW0
 go_upto_region 2 with (go_at_call 105;refine (HBT.out W0).mono ?_;rintro e w1 ⟨rfl,hb1⟩)
 obtain ⟨W2,hW2⟩:∃ W,w1.alloc (.cells (vs .u8 8 (bt Q)) 135)=W:=⟨_,rfl⟩
 rw [hW2]
 have hz1:=hb1.size
 have rn:W2.heap[w1.heap.size]?=some (.cells (vs .u8 8 (bt Q)) 135):=by rw [←hW2];exact aA2 rfl
 have hD2:Below W0.heap.size W0 W2:=by rw [←hW2];exact hb1.alloc hz1 _
 have hB2:Below w.heap.size w W2:=HB0.out.trans (hD2.mono (by omega))
 have rs:=(hD2.block w.heap.size (by omega)).trans HR0.out.1
 have rr:=(hD2.block (w.heap.size+1) (by omega)).trans HR0.out.2
 have zn:w1.heap.size < W2.heap.size:=(Array.getElem?_eq_some_iff.1 rn).1
 obtain ⟨y,ey⟩:∃ y,w1.heap.size=y:=⟨_,rfl⟩
 rw [ey] at rn zn hz1 ⊢
 have zs:w.heap.size < W2.heap.size:=by omega
 have zr2:w.heap.size+1 < W2.heap.size:=by omega
 have hap1:∀ W,Below W2.heap.size W2 W→∀ ty,∃g C w',(aDO ty (.slice (some ⟨w.heap.size,0,none⟩) 32 32) (.slice (some ⟨W.heap.size,0,none⟩) 1 1)).run Tryz.prog (W.alloc (.cells #[.int .u8 r] 5))=.ok (.slice (some ⟨g,0,none⟩) 33 C) w'∧w'.ownsRow W2.heap.size 5 1 (.slice (some ⟨g,0,none⟩) 33 C) 33 (bl (sd1 s r) 33)∧Below W2.heap.size W w':=fun W hW ty=>by
  have hz:=hW.size
  obtain ⟨g,C,w',h1,h2,h3⟩:=aJT W w.heap.size s r (fun j hj=>aA8 ((hW.block _ zs).trans rs) j hj) (by omega) ty
  exact ⟨g,C,w',h1,h2.mono hz,h3.mono hz⟩
 have hap2:∀ (W:World) g C,Below W2.heap.size W2 W→W.ownsRow W2.heap.size 5 1 (.slice (some ⟨g,0,none⟩) 33 C) 33 (bl (sd1 s r) 33)→∀ ty,∃g' C' w',(aDO ty (.slice (some ⟨g,0,none⟩) 33 C) (.slice (some ⟨y,0,none⟩) 4 8)).run Tryz.prog W=.ok (.slice (some ⟨g',0,none⟩) 37 C') w'∧w'.ownsRow W0.heap.size 5 1 (.slice (some ⟨g',0,none⟩) 37 C') 37 (bl (sd2 s r Q) 37)∧Below W2.heap.size W w':=fun W g C hW ho ty=>by
  rw [aCE (m:=sd1 s r) (m':=sd2 s r Q) (fun j hj=>by unfold sd2;rw [if_pos hj])] at ho
  obtain ⟨g',C',w',h1,h2,h3⟩:=aOT W W2.heap.size g C 33 y (sd2 s r Q) (bt Q) ho (fun j hj=>aA8 ((hW.block _ zn).trans rn) j (by omega)) (fun j hj=>by unfold sd2;rw [if_neg (by omega),show 33+j - 33=j by omega]) hW.size (by omega) ty
  exact ⟨g',C',w',h1,h2.mono (by omega),h3⟩
 have HAP1:=hid hap1
 have HAP2:=hid hap2
 have HB2:=hid hB2
 have HD2:=hid (Below.refl W2.heap.size W2)
 have hdr:Below W2.heap.size W2 W2.drew:=(Below.refl _ _).drew
 have HDR:=hid hdr
 have HZR:=hid zr2
 clear HR0
 have HR0:=hid rr
 clear hap1 hap2 hB2 hdr zr2 rr rs rn zn zs hD2 hW2 ey hb1 hz1 HB0 HBT v8 z zr
 refine wp_region_noPanic ?_
 refine wp_region_held_drew (S:=fun _=>True) (by kernel_rfl) (trivial) (fun hHeld=>?_)
 refine tk 0 (v:=?v1) ?y1 hHeld ?r1
 case y1=>intro w hSw;go_simp;try with_reducible rfl
 refine tk 1 (v:=?v2) ?y2 hHeld ?r2
 case y2=>intro w hSw;go_simp;try with_reducible rfl
 refine tk 4 (v:=?v3) ?y3 hHeld ?r3
 case y3=>intro w hSw;go_simp;try with_reducible rfl
 try simp only [Act.put,z_1,z_2,z_3,z_4,z_5,z_6,z_7]
 refine wpAnyH_ready (rs:=[2]) (by kernel_rfl) (by simp) ?_
 refine AllReadyH.cons rfl (fun K hK=>?_) AllReadyH.nil
 go_simp
 refine hK.out _ _ (trivial) (fun hHeld=>?_)
 clear hK K
 try simp only [Act.put,z_1,z_2,z_3,z_4,z_5,z_6,z_7]
 refine wpAnyH_ready (rs:=[3]) (by kernel_rfl) (by simp) ?_
 refine AllReadyH.cons rfl (fun K hK=>?_) AllReadyH.nil
 obtain ⟨g1,C1,w1,hap1,ho1,hb1⟩:=HAP1.out _ HD2.out.drew 39
 refine aAo _ _ rfl _ _ _ _ rfl rfl hap1 ?_
 replace hb1:Below W2.heap.size W2 w1:=HDR.out.trans hb1
 refine hK.out _ _ (trivial) (fun hHeld=>?_)
 clear hK K
 try simp only [Act.put,z_1,z_2,z_3,z_4,z_5,z_6,z_7]
 refine wpAnyH_ready (rs:=[5]) (by kernel_rfl) (by simp) ?_
 refine AllReadyH.cons rfl (fun K hK=>?_) AllReadyH.nil
 obtain ⟨g3,C3,w3,hap3,ho3,hb3⟩:=HAP2.out w1 g1 C1 hb1 ho1 39
 refine aAo _ _ rfl _ _ _ _ rfl rfl hap3 ?_
 replace hb3:Below W2.heap.size W2 w3:=hb1.trans hb3
 refine hK.out _ _ (trivial) (fun hHeld=>?_)
 clear hK K
 try simp only [Act.put,z_1,z_2,z_3,z_4,z_5,z_6,z_7]
 refine wpAnyH_ready (rs:=[6]) (by kernel_rfl) (by simp) ?_
 refine AllReadyH.cons rfl (fun K hK=>?_) AllReadyH.nil
 go_simp
 refine (HSUM.out w3 g3 C3 (HB2.out.trans (hb3.mono HB2.out.size)) ho3).mono ?_
 rintro e w4 ⟨rfl,hb4⟩
 dsimp only
 replace hb4:Below W2.heap.size W2 w4:=hb3.trans (hb4.mono hb3.size)
 have r4:=(hb4.block _ HZR.out).trans HR0.out
 refine hK.out _ _ (trivial) (fun hHeld=>?_)
 clear hK K
 try simp only [Act.put,z_1,z_2,z_3,z_4,z_5,z_6,z_7]
 refine wpAnyH_ready (rs:=[7]) (by kernel_rfl) (by simp) ?_
 refine AllReadyH.cons rfl (fun K hK=>?_) AllReadyH.nil
 have v4:=aAv r4 X
 go_simp
 refine hK.out _ _ (trivial) (fun hHeld=>?_)
 clear hK K
 try simp only [Act.put,z_1,z_2,z_3,z_4,z_5,z_6,z_7]
 refine wpAnyH_done (by kernel_rfl) ?_ _
 refine NoPanic.normal ?_
 go_wp2
 have hz4:=HB2.out.size
 refine aC4 6 (w.heap.size+1) X 24 rfl rfl rfl (aA4 r4) ⟨rfl,?_⟩
 exact aA6 (HB2.out.trans (hb4.mono hz4)) (by omega) _
set_option maxRecDepth 20000 in
set_option maxHeartbeats 1000000 in
theorem aLh (s : Nat → Int) (r n i : Int) (w : World) (hs : ∀ j, j < 32 → 0 ≤ s j ∧ s j < 256) (hr : 0 ≤ r ∧ r < 256) (h0 : 0 ≤ i) (h1 : i < n) (hn : n ≤ 4294967296) (hS : Sh w) :
    Calls Tryz.prog 139 #[.int .u64 i,.int .u64 n,.agg (vs .u8 32 s),.int .u8 r] w fun e w'=>e=.returned (.int .u64 (rdV s r n i))∧Below w.heap.size w w':=by
 obtain ⟨W0,hW0⟩:∃ W,w.alloc (.cells (vs .u8 32 s) 24)=W:=⟨_,rfl⟩
 have r0:W0.heap[w.heap.size]?=some (.cells (vs .u8 32 s) 24):=by rw [←hW0];exact aA2 rfl
 have hB0:Below w.heap.size w W0:=by rw [←hW0];exact (Below.refl _ _).alloc (Nat.le_refl _) _
 have z0:w.heap.size < W0.heap.size:=(Array.getElem?_eq_some_iff.1 r0).1
 have hpb:=aNc s r (n:=n) (by omega)
 have hp:=aKV s r n W0 hs hr (by omega) (by omega) (hS.below hB0)
 have hev:rdV s r n i=rdX (rdB s r) (pv s r n) n i:=rfl
 obtain ⟨P,hP⟩:∃ P,pv s r n=P:=⟨_,rfl⟩
 rw [hP] at hp hpb hev
 obtain ⟨p0,p1⟩:=hpb
 have hf:=fun W:World=>aMJ i n P W h0 h1 hn p0 p1
 obtain ⟨f0,f1⟩:=aPj h0 h1 p0 p1
 have hev2:rdV s r n i=if rdB s r (mx i (fl i n P))=true then fl i n P else i:=hev
 obtain ⟨F,hF⟩:∃ F,fl i n P=F:=⟨_,rfl⟩
 rw [hF] at hf f0 f1 hev2
 obtain ⟨M,hM⟩:∃ M,mx i F=M:=⟨_,rfl⟩
 rw [hM] at hev2
 have m0:0≤M∧M < 4294967296:=by rw [←hM];unfold mx;split<;>omega
 obtain ⟨m0,m1⟩:=m0
 have hmx:(if i < F then F else i)=M:=hM
 have hso:∀ W:World,Below W0.heap.size W0 W→Calls Tryz.prog 144 #[.int .u64 M,.agg (vs .u8 32 s),.int .u8 r] W fun e w'=>e=.returned (.agg (vs .u8 32 (aQe s r (M / 256))))∧Below W.heap.size W w':=fun W h=>aJF s r M W hs hr m0 (by omega) ((hS.below hB0).below h)
 have his:=fun W:World=>aKu (aQe s r (M / 256)) M W (fun j _=>aBU ..) m0 (by omega)
 obtain ⟨X,hX⟩:∃ X,aQe s r (M / 256)=X:=⟨_,rfl⟩
 have hbit:rdB s r M=aNU X M:=by unfold rdB;rw [hX]
 rw [hX] at hso his
 rw [hbit] at hev2
 obtain ⟨b,hb⟩:∃ b,aNU X M=b:=⟨_,rfl⟩
 rw [hb] at his hev2
 have hl:∀ W:World,Below W0.heap.size W0 W→(aDZ ⟨w.heap.size,0,none⟩).run Tryz.prog W=.ok (.agg (vs .u8 32 s)) W:=fun W h=>aAU ((h.block _ z0).trans r0)
 have l0:=hl W0 (Below.refl _ _)
 have EV:=hid hev2
 have HP:=hid hp
 have HFL:=hid hf
 have HSO:=hid hso
 have HIS:=hid his
 have HL:=hid hl
 have HB0:=hid hB0
 have HW0:=hid hW0
 clear hp hf hso his hl hB0 hW0 r0 hs hr hS hP hF hM hX hbit hb hev hev2
 by_cases hlt:i < F
 ·rw [if_pos hlt] at hmx
  subst hmx
  have hm2:max i F=F:=by omega
  go_enter Tryz.func139,Tryz.ntmps139
  go_upto_region 1 with fail
  rw [HW0.out]
  clear HW0
  go_upto_region 2 with (first
   | (go_at_call 142; refine HP.out.mono ?_; rintro e w1 ⟨rfl, hb1⟩)
   | (go_at_call 141; refine (HFL.out _).mono ?_; rintro e w2 ⟨rfl, hw2⟩; obtain rfl := hw2.symm))
  have l1:=HL.out w1 hb1
  have z1:=hb1.size
  clear l0
  cases b
  all_goals
   go_wp2_with (first
    | (go_at_call 144; refine (HSO.out w1 hb1).mono ?_; rintro e w3 ⟨rfl, hb3⟩)
    | (go_at_call 143; refine (HIS.out _).mono ?_; rintro e w4 ⟨rfl, hb4⟩))
   go_ret
   have z3:=hb3.size
   exact ⟨aB9 (by rw [EV.out];simp),HB0.out.trans ((hb1.mono (by omega)).trans ((hb3.mono (by omega)).trans (hb4.mono (by omega))))⟩
 ·rw [if_neg hlt] at hmx
  subst hmx
  have hm2:max i F=i:=by omega
  go_enter Tryz.func139,Tryz.ntmps139
  go_upto_region 1 with fail
  rw [HW0.out]
  clear HW0
  go_upto_region 2 with (first
   | (go_at_call 142; refine HP.out.mono ?_; rintro e w1 ⟨rfl, hb1⟩)
   | (go_at_call 141; refine (HFL.out _).mono ?_; rintro e w2 ⟨rfl, hw2⟩; obtain rfl := hw2.symm))
  have l1:=HL.out w1 hb1
  have z1:=hb1.size
  clear l0
  cases b
  all_goals
   go_wp2_with (first
    | (go_at_call 144; refine (HSO.out w1 hb1).mono ?_; rintro e w3 ⟨rfl, hb3⟩)
    | (go_at_call 143; refine (HIS.out _).mono ?_; rintro e w4 ⟨rfl, hb4⟩))
   go_ret
   have z3:=hb3.size
   exact ⟨aB9 (by rw [EV.out];simp),HB0.out.trans ((hb1.mono (by omega)).trans ((hb3.mono (by omega)).trans (hb4.mono (by omega))))⟩
end
section
open Go.RowKit
set_option linter.unusedVariables false
set_option linter.unusedSimpArgs false
def plV (s:Nat→Int) (n:Int):Nat→Int→Int
 | 0, i => i
 | k + 1, i => rdV s (k : Int) n (plV s n k i)
theorem aGT (s:Nat→Int) {n i:Int} (h0:0≤i) (h1:i < n) (k:Nat):0≤plV s n k i∧plV s n k i < n:=by
 induction k with
 | zero => exact ⟨h0, h1⟩
 | succ k ih => exact aSm s _ ih.1 ih.2
theorem aMO {i n:Int} (h1:i < n) (hn:n≤4294967296):isP i n=true:=by unfold isP;simp [h1,hn]
attribute [local go_sem ↓] aAu aAt aBJ
set_option maxRecDepth 20000 in
set_option maxHeartbeats 1000000 in
theorem aNa (s : Nat → Int) (i n : Int) (w : World) (hs : ∀ j, j < 32 → 0 ≤ s j ∧ s j < 256) (h0 : 0 ≤ i) (h1 : i < n) (hn : n ≤ 4294967296) (hS : Sh w) :
    Calls Tryz.prog 134 #[.int .u64 i,.int .u64 n,.agg (vs .u8 32 s)] w fun e w'=>e=.returned (.tuple #[.int .u64 (plV s n 6 i),.int .i64 0])∧Below w.heap.size w w':=by
 obtain ⟨W0,hW0⟩:∃ W,w.alloc (.cells (vs .u8 32 s) 24)=W:=⟨_,rfl⟩
 have r0:W0.heap[w.heap.size]?=some (.cells (vs .u8 32 s) 24):=by rw [←hW0];exact aA2 rfl
 have hB0:Below w.heap.size w W0:=by rw [←hW0];exact (Below.refl _ _).alloc (Nat.le_refl _) _
 have z0:w.heap.size < W0.heap.size:=(Array.getElem?_eq_some_iff.1 r0).1
 have hi:=fun W:World=>aHD i n W
 rw [aMO h1 hn] at hi
 have hrd:∀ (k:Nat) (x:Int) (W:World),k < 6→0≤x→x < n→Below W0.heap.size W0 W→Calls Tryz.prog 139 #[.int .u64 x,.int .u64 n,.agg (vs .u8 32 s),.int .u8 (k:Int)] W fun e w'=>e=.returned (.int .u64 (rdV s (k:Int) n x))∧Below W.heap.size W w' :=
  fun k x W hk x0 x1 hW=>aLh s k n x W hs (by omega) x0 x1 hn ((hS.below hB0).below hW)
 have hl:∀ W:World,Below W0.heap.size W0 W→(aDZ ⟨w.heap.size,0,none⟩).run Tryz.prog W=.ok (.agg (vs .u8 32 s)) W:=fun W h=>aAU ((h.block _ z0).trans r0)
 have hpl:=fun k=>aGT s h0 h1 k
 have HI:=hid hi
 have HRD:=hid hrd
 have HL:=hid hl
 have HPL:=hid hpl
 have HB0:=hid hB0
 have HW0:=hid hW0
 clear hi hrd hl hpl hB0 hW0 r0 hs hS
 go_enter Tryz.func134,Tryz.ntmps134
 go_upto_region 1 with fail
 rw [HW0.out]
 clear HW0
 go_wp2_with (go_at_call 138;refine (HI.out _).mono ?_;rintro e w' ⟨rfl,hw'⟩;obtain rfl:=hw'.symm)
 go_loopw [13,0] (fun c x wr=>∃ k:Nat,k≤6∧c=.int .i64 k∧x=.int .u64 (plV s n k i)∧Below W0.heap.size W0 wr) (fun c _ _=>6 - (intOf c).toNat)
 case atStart=>exact ⟨0,by omega,rfl,rfl,Below.refl _ _⟩
 case round =>
  obtain ⟨k,hk,rfl,rfl,hw⟩:=hrel
  obtain ⟨b0,b1⟩:=HPL.out k
  have er:plV s n (k+1) i=rdV s (k:Int) n (plV s n k i):=rfl
  obtain ⟨X,hX⟩:∃ X,plV s n k i=X:=⟨_,rfl⟩
  by_cases hk6:k < 6
  ·rw [hX] at b0 b1 er ⊢
   have hc:=HRD.out k X wr hk6 b0 b1 hw
   have l0:=HL.out wr hw
   have k1:(k:Int) < 6:=by omega
   have k2:(0:Int)≤(k:Int):=by omega
   have kw:IntKind.u8.wrap (k:Int)=(k:Int):=by rw [IntKind.wrap_u8];omega
   have HC:=hid hc
   have HW:=hid hw
   have ER:=hid er
   clear hc hw er hX
   go_wp2_with (go_at_call 139;refine HC.out.mono ?_;rintro e w1 ⟨rfl,hb1⟩)
   have hz:=HW.out.size
   go_roundw
   case rel=>exact ⟨k+1,by omega,by go_num,by rw [ER.out],HW.out.trans (hb1.mono hz)⟩
   case measure=>simp [intOf];omega
  ·obtain rfl:k=6:=by omega
   have HW:=hid hw
   clear hw er hX
   go_wp2
   go_ret2
   exact ⟨rfl,HB0.out.trans (HW.out.mono (by omega))⟩
end
end Go.Proofs.YtdjplhibmomajaaGreatDoor
