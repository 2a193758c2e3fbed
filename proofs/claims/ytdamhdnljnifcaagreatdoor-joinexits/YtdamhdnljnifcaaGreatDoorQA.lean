/- A part. -/
import Derived.Test.YtdamhdnljnifcaaGreatDoorHaE
import Derived.Test.YtdamhdnljnifcaaGreatDoorHaF
import Derived.Test.YtdamhdnljnifcaaGreatDoorHaD
import Derived.Test.YtdamhdnljnifcaaGreatDoorQS
import Derived.Test.YtdamhdnljnifcaaGreatDoorMaA
import Derived.Deep.RegionWith
import Derived.Laws.BytesString
import Derived.Maps.AppendAt
namespace Go.Proofs.YtdamhdnljnifcaaGreatDoor
open Go.RowKit
set_option linter.unusedVariables false
set_option linter.unusedSimpArgs false
section
open Go.RowKit
set_option linter.unusedVariables false
def sv40 (a:Addr) (v:Value):Sem Unit:=storeVar 150 a v
theorem sv40_eq (a:Addr) (v:Value):storeVar 150 a v=sv40 a v:=rfl
theorem sv40_run {w:World} {b:Nat} {o:Nat→Int} {t:TypeId} (h:w.heap[b]?=some (.cells (vs .u32 8 o) t)) (c:Nat→Int):(sv40 ⟨b,0,none⟩ (.agg (vs .u32 8 c))).run Tryz.prog w=.ok () (w.setRow b (vs .u32 8 c)) :=
 run_storeVar_row w b t 150 _ _ h (by rw [vs_size];kernel_rfl) (by rw [vs_size,vs_size]) (vs_one _ _ _)
theorem lv40_row {w:World} {b:Nat} {c:Nat→Int} {t:TypeId} (h:w.heap[b]?=some (.cells (vs .u32 8 c) t)):(lv40 ⟨b,0,none⟩).run Tryz.prog w=.ok (.agg (vs .u32 8 c)) w :=
 loadAt_var (load_row h 150 _ Tryz.underlying150 rfl (by rw [vs_size];kernel_rfl))
theorem sv40_new (w:World):(sv40 ⟨w.heap.size+1,0,none⟩ (.agg #[.int .u32 1779033703,.int .u32 3144134277,.int .u32 1013904242,.int .u32 2773480762,.int .u32 1359893119,.int .u32 2600822924,.int .u32 528734635,.int .u32 1541459225])).run Tryz.prog ((w.alloc (.cells #[.int .u8 0,.int .u8 0,.int .u8 0,.int .u8 0,.int .u8 0,.int .u8 0,.int .u8 0,.int .u8 0,.int .u8 0,.int .u8 0,.int .u8 0,.int .u8 0,.int .u8 0,.int .u8 0,.int .u8 0,.int .u8 0,.int .u8 0,.int .u8 0,.int .u8 0,.int .u8 0,.int .u8 0,.int .u8 0,.int .u8 0,.int .u8 0,.int .u8 0,.int .u8 0,.int .u8 0,.int .u8 0,.int .u8 0,.int .u8 0,.int .u8 0,.int .u8 0] 24)).alloc (.cells #[.int .u32 0,.int .u32 0,.int .u32 0,.int .u32 0,.int .u32 0,.int .u32 0,.int .u32 0,.int .u32 0] 150))=.ok () ((w.alloc (.cells (vs .u8 32 fun _=>0) 24)).alloc (.cells (vs .u32 8 HW) 150)):=by
 have h:=run_storeVar_new (P:=Tryz.prog) (w.alloc (.cells (vs .u8 32 fun _=>0) 24)) 150 (vs .u32 8 fun _=>0) (vs .u32 8 HW) (by rw [vs_size];kernel_rfl) (by rw [vs_size,vs_size]) (vs_one _ _ _)
 rw [show (w.alloc (.cells (vs .u8 32 fun _=>0) 24)).heap.size=w.heap.size+1 by simp] at h
 exact h
theorem size_row (w:World) (g:Nat) (c:Array Value):(w.setRow g c).heap.size=w.heap.size:=by simp [World.setRow]
attribute [local go_sem ↓] sv24_eq lv24_eq sv40_eq lv40_eq
set_option maxRecDepth 20000 in
set_option maxHeartbeats 1000000 in
theorem refsum_wide (K m : Nat → Int) (a : Option Addr) (len cap : Nat) (w : World) (hK : Tab w 1 64 K) (hb : Bys w a len cap m) (hr : ∀ j, j < len → 0 ≤ m j ∧ m j < 256) (hlen : len ≤ 140737488353280) :
    Calls Tryz.prog 67 #[.slice a len cap] w fun e w'=>e=.returned (.agg (vs .u8 32 (shaV K HW m len)))∧Below w.heap.size w w':=by
 have HK:=hid hK
 have HBY:=hid hb
 have HR:=hid hr
 clear hK hb hr
 go_enter Tryz.func67,Tryz.ntmps67
 have s40:=sv40_new w
 go_upto_region 2 with fail
 obtain ⟨W0,hW0⟩:∃ W,(w.alloc (.cells (vs .u8 32 fun _=>0) 24)).alloc (.cells (vs .u32 8 HW) 150)=W:=⟨_,rfl⟩
 rw [hW0]
 have s0:W0.heap.size=w.heap.size+1+1:=by rw [←hW0];simp
 have hB0:Below w.heap.size w W0:=by rw [←hW0];go_grown
 have r0:W0.heap[w.heap.size]?=some (.cells (vs .u8 32 fun _=>0) 24):=by rw [←hW0];exact (heap_old (by simp)).trans (heap_new rfl)
 have r1:W0.heap[w.heap.size+1]?=some (.cells (vs .u32 8 HW) 150):=by rw [←hW0];exact heap_new (by simp)
 have hp:=padded_wide m a len cap W0 (HBY.out.below hB0) hlen
 have HP:=hid hp
 have HS0:=hid s0
 have HB0:=hid hB0
 have HR0:=hid (And.intro r0 r1)
 clear hW0 s40 s0 hB0 r0 r1 hp
 go_upto_region 3 with (go_at_call 101;refine HP.out.mono ?_;rintro e w1 ⟨g,C,rfl,ho1,hb1⟩)
 obtain ⟨M,hM⟩:∃ M,padM m len=M:=⟨_,rfl⟩
 obtain ⟨Q,hQ⟩:∃ Q,padL len=64*Q:=⟨padL len / 64,by have:=padZ_bd len;unfold padL;omega⟩
 rw [hQ,hM] at ho1
 rw [hQ]
 have hMr:∀ j,0≤M j∧M j < 256:=by
  intro j
  rw [←hM]
  unfold padM
  by_cases hj:j < len
  ·rw [if_pos hj];exact HR.out j hj
  ·rw [if_neg hj];exact padB_bd _ _
 obtain ⟨hg0,hg1,hgC,hCm,hgc⟩:=own_cells ho1
 have hz0:=HS0.out
 have hz1:=hb1.size
 have hQb:64*Q≤140737488355328:=by have:=padZ_bd len;unfold padL at hQ;omega
 have HQ:=hid (And.intro hM hQ)
 have HMR:=hid hMr
 have hB1:Below w.heap.size w w1:=HB0.out.trans (hb1.mono (by omega))
 have r0:=(hb1.block w.heap.size (by omega)).trans HR0.out.1
 have r1:=(hb1.block (w.heap.size+1) (by omega)).trans HR0.out.2
 have g1:w.heap.size+1 < g:=by omega
 clear hM hQ hMr ho1 hz0 hz1 hb1 hg0
 go_loopw [4] (fun v wr=>∃ (q:Nat) (A:Addr),q≤Q∧v=.slice (some A) (64*(Q - q)) (C - 64*q)∧(q < Q→A=⟨g,64*q,none⟩)∧Below w.heap.size w wr∧g < wr.heap.size∧wr.heap[w.heap.size]?=some (.cells (vs .u8 32 fun _=>0) 24)∧wr.heap[w.heap.size+1]?=some (.cells (vs .u32 8 (hsh K HW M q)) 150)∧∀ j,j < 64*Q→wr.cell? ⟨g,j,none⟩=some (.int .u8 (M j))) (fun v _=>sliceLen v)
 case atStart=>exact ⟨0,⟨g,0,none⟩,Nat.zero_le _,rfl,fun _=>rfl,hB1,hg1,r0,r1,hgc⟩
 case round =>
  clear hB1 hg1 r0 r1 hgc
  obtain ⟨q,A,hq,rfl,hA,hB,hgl,r0,r1,hgc⟩:=hrel
  by_cases hlt:q < Q
  ·have hA:=hA hlt
   subst hA
   obtain ⟨s,hs⟩:∃ s,hsh K HW M q=s:=⟨_,rfl⟩
   rw [hs] at r1
   have hsb:=hsh_bd K HW M HW_bd q
   rw [hs] at hsb
   obtain ⟨n1,e1⟩:∃ n1,64*(Q - q)=n1:=⟨_,rfl⟩
   obtain ⟨C1,e2⟩:∃ C1,C - 64*q=C1:=⟨_,rfl⟩
   rw [e1,e2]
   have n2:64≤n1:=by omega
   have n3:n1≤C1:=by omega
   have n4:(64:Int)≤(C1:Int):=by omega
   have n5:(0:Int) < (n1:Int):=by omega
   have n6:(64:Int)≤(n1:Int):=by omega
   have n7:(n1:Int)≤(C1:Int):=by omega
   have l40:=lv40_row (w:=wr.drew) r1
   have hbk:=block_any K (fun j=>M (64*q+j)) s g (64*q) 64 C1 wr.drew (fun i _=>HMR.out _) hsb (HK.out.below (w':=wr.drew) ⟨hB.os,hB.tape,hB.output,hB.size,hB.block⟩) (by omega) (by omega) (fun j hj=>hgc (64*q+j) (by omega)) hgl
   have HBK:=hid hbk
   have R0:=hid r0
   have R1:=hid r1
   have HB:=hid hB
   have HGC:=hid hgc
   have HGL:=hid hgl
   have HSS:=hid hs
   have HEE:=hid (And.intro e1 (And.intro e2 hq))
   clear hbk r0 r1 hB hgc hgl hs hsb e1 e2 hq
   go_wp2
   go_region_with (go_at_call 102;refine HBK.out.mono ?_;rintro e w2 ⟨rfl,hb2⟩;have v40:=sv40_run ((hb2.block (w.heap.size+1) (by have:=HGL.out;show w.heap.size+1 < wr.heap.size;omega)).trans R1.out) (comp K (fun j=>M (64*q+j)) s))
   all_goals
    go_wp2
    obtain ⟨e1,e2,hq⟩:=HEE.out
    obtain ⟨A',hA',hA2⟩:∃ A:Addr,(if C1=64 then some (⟨g,64*q,none⟩:Addr) else some ⟨g,64*q+64,none⟩)=some A∧(q+1 < Q→A=⟨g,64*(q+1),none⟩):=by
     by_cases hCc:C1=64
     ·rw [if_pos hCc];exact ⟨_,rfl,fun h=>absurd h (by omega)⟩
     ·rw [if_neg hCc];exact ⟨_,rfl,fun _=>rfl⟩
    have hgl:=HGL.out
    have hz2:wr.heap.size≤w2.heap.size:=hb2.size
    have hB:=HB.out
    refine ⟨⟨q+1,A',by omega,?_,hA2,?_,?_,?_,?_,?_⟩,?_⟩
    ·rw [hA',show n1 - 64=64*(Q - (q+1)) by omega,show C1 - 64=C - 64*(q+1) by omega]
    ·refine below_row (Below.trans (b:=wr.drew) ⟨hB.os,hB.tape,hB.output,hB.size,hB.block⟩ (hb2.mono hB.size)) (by omega) _
    ·rw [size_row];omega
    ·exact (setRow_other w2 (w.heap.size+1) _ _ (by omega)).trans ((hb2.block _ (show w.heap.size < wr.heap.size by omega)).trans R0.out)
    ·rw [setRow_at ((hb2.block (w.heap.size+1) (show w.heap.size+1 < wr.heap.size by omega)).trans R1.out),←HSS.out]
     rfl
    ·intro j hj
     exact (World.cell?_of_block (w:=w2) (setRow_other w2 (w.heap.size+1) g _ (by omega))).trans ((below_cell hb2 (show g < wr.heap.size by omega)).trans (HGC.out j hj))
    ·show n1 - 64 < n1
     omega
  ·have e:q=Q:=by omega
   subst e
   obtain ⟨s,hs⟩:∃ s,hsh K HW M q=s:=⟨_,rfl⟩
   rw [hs] at r1
   have hsb:=hsh_bd K HW M HW_bd q
   rw [hs] at hsb
   rw [show 64*(q - q)=0 by omega]
   have HSB:=hid hsb
   have HSS:=hid hs
   have x0:w.heap.size < wr.heap.size:=by omega
   have x1:w.heap.size+1 < wr.heap.size:=by omega
   clear hsb hs hgc hlt hq hA hgC hCm hQb g1 hgl
   go_wp2
   change Code.wp _ _ _ _ (wr.alloc (.cells (vs .u8 32 fun _=>0) 24))
   obtain ⟨X,hX⟩:∃ X,wr.heap.size=X:=⟨_,rfl⟩
   rw [hX]
   go_loopw [6] (fun i wx=>∃ k:Nat,k≤32∧i=.int .i64 k∧Below w.heap.size w wx∧X < wx.heap.size∧wx.heap[w.heap.size]?=some (.cells (vs .u8 32 fun _=>0) 24)∧wx.heap[w.heap.size+1]?=some (.cells (vs .u32 8 s) 150)∧wx.heap[X]?=some (.cells (vs .u8 32 fun j=>if j < k then rbt s j else 0) 24)) (fun i _=>32 - (intOf i).toNat)
   case atStart=>exact ⟨0,by omega,rfl,hB.alloc (by omega) _,by simp;omega,(heap_old x0).trans r0,(heap_old x1).trans r1,(heap_new hX.symm).trans (congrArg (fun c=>some (Obj.cells c 24)) (vs_congr fun j _=>by rw [if_neg (by omega)]))⟩
   case round =>
    rw [hX] at x0 x1
    clear hB r0 r1 hX
    obtain ⟨k,hk,rfl,hB,hXl,r0,r1,r2⟩:=hrel
    by_cases hlt:k < 32
    ·obtain ⟨q4,eq4⟩:∃ q4,q4=k / 4:=⟨_,rfl⟩
     obtain ⟨r4,er4⟩:∃ r4,r4=k % 4:=⟨_,rfl⟩
     obtain ⟨e,ee⟩:∃ e,e=24 - 8*r4:=⟨_,rfl⟩
     have t1:(k:Int).tdiv 4=(q4:Int):=by rw [Int.tdiv_eq_ediv_of_nonneg (by omega)];omega
     have t2:(k:Int) / 4=(q4:Int):=by omega
     have t3:(k:Int).tmod 4=(r4:Int):=by rw [Int.tmod_eq_emod_of_nonneg (by omega)];omega
     have t4:(k:Int) % 4=(r4:Int):=by omega
     have t5:(24:Int) - 8*(r4:Int)=(e:Int):=by omega
     have t6:(q4:Int) < 8:=by omega
     have t7:(e:Int)≤24:=by omega
     have t8:(r4:Int) < 4:=by omega
     have t9:(k:Int) < 32:=by omega
     have cq:=row_int r1 q4 (by omega)
     have ck:=row_int r2 k (by omega)
     have fk:=row_frozen r2 k
     obtain ⟨sb1,sb2⟩:=HSB.out q4 (by omega)
     obtain ⟨y,hy⟩:∃ y,s q4=y:=⟨_,rfl⟩
     rw [hy] at cq sb1 sb2
     have HY:=hid (And.intro hy (And.intro eq4 (And.intro er4 ee)))
     have R0:=hid r0
     have R1:=hid r1
     have R2:=hid r2
     have HB:=hid hB
     have HXL:=hid hXl
     clear hy eq4 er4 ee r0 r1 r2 hB hXl
     go_wp2
     go_roundw
     case rel =>
      obtain ⟨hy,eq4,er4,ee⟩:=HY.out
      have hxl:=HXL.out
      refine ⟨k+1,by omega,by go_num,HB.out.setCell (by simp;omega) _,(size_s _ _ _).symm ▸ hxl,(heap_set_other (by omega)).trans R0.out,(heap_set_other (by omega)).trans R1.out,?_⟩
      refine (row_set R2.out k _).trans ?_
      rw [vs_set]
      refine congrArg (fun c=>some (Obj.cells c 24)) (vs_congr fun j _=>?_)
      by_cases hj:j=k
      ·subst hj
       rw [if_pos rfl,if_pos (by omega)]
       unfold rbt
       rw [←eq4,←er4,←ee,hy]
      ·rw [if_neg hj]
       by_cases hj2:j < k
       ·rw [if_pos hj2,if_pos (by omega)]
       ·rw [if_neg hj2,if_neg (by omega)]
     case measure=>simp [intOf];omega
    ·have ek:k=32:=by omega
     subst ek
     rw [show ((32:Nat):Int)=32 from rfl]
     have er:(vs .u8 32 fun j=>if j < 32 then rbt s j else 0)=vs .u8 32 (rbt s):=vs_congr fun j hj=>by rw [if_pos hj]
     rw [er] at r2
     have l24:=lv24_run r2
     have v24:=sv24_run r0 (rbt s)
     have R0:=hid r0
     have HB:=hid hB
     clear r0 r1 r2 hB er
     go_wp2
     refine ret24 2 w.heap.size _ 24 rfl rfl rfl (setRow_at R0.out) ⟨?_,below_row HB.out (Nat.le_refl _) _⟩
     rw [←HSS.out,←HQ.out.1]
     unfold shaV
     rw [HQ.out.2,show 64*q / 64=q by omega]
theorem refsum_any (K m : Nat → Int) (a : Option Addr) (len cap : Nat) (w : World) (hK : Tab w 1 64 K) (hb : Bys w a len cap m) (hr : ∀ j, j < len → 0 ≤ m j ∧ m j < 256) (hlen : len ≤ 140737488351232) :
    Calls Tryz.prog 67 #[.slice a len cap] w fun e w'=>e=.returned (.agg (vs .u8 32 (shaV K HW m len)))∧Below w.heap.size w w':=refsum_wide K m a len cap w hK hb hr (by omega)
end
section
open Go.RowKit
set_option linter.unusedVariables false
set_option linter.unusedSimpArgs false
attribute [local go_sem ↓] sv24_eq lv24_eq
set_option maxRecDepth 20000 in
set_option maxHeartbeats 1000000 in
theorem reftwo_any (a b : Nat → Int) (w : World) (hC : Tab w 1 64 KW) (ha : ∀ j, j < 32 → 0 ≤ a j ∧ a j < 256) (hb : ∀ j, j < 32 → 0 ≤ b j ∧ b j < 256) :
    Calls Tryz.prog 45 #[.agg (vs .u8 32 a),.agg (vs .u8 32 b)] w fun e w'=>e=.returned (.agg (vs .u8 32 (shaV KW HW (cat a b) 64)))∧Below w.heap.size w w':=by
 obtain ⟨cx,hcx⟩:∃ c,shaV KW HW (cat a b) 64=c:=⟨_,rfl⟩
 rw [hcx]
 have hcab:∀ j,j < 64→0≤cat a b j∧cat a b j < 256:=by
  intro j hj
  unfold cat
  by_cases h:j < 32
  ·rw [if_pos h];exact ha j h
  ·rw [if_neg h];exact hb _ (by omega)
 have HC:=hid hC
 have HAB:=hid hcab
 have HCX:=hid hcx
 clear hC ha hb hcab hcx
 go_enter Tryz.func45,Tryz.ntmps45
 go_upto_region 1 with fail
 change Code.wp _ _ _ _ (((w.alloc (.cells (vs .u8 32 a) 24)).alloc (.cells (vs .u8 32 b) 24)).alloc (.cells (vs .u8 32 fun _=>0) 24))
 obtain ⟨W0,hW0⟩:∃ W,((w.alloc (.cells (vs .u8 32 a) 24)).alloc (.cells (vs .u8 32 b) 24)).alloc (.cells (vs .u8 32 fun _=>0) 24)=W:=⟨_,rfl⟩
 rw [hW0]
 have s0:W0.heap.size=w.heap.size+1+1+1:=by rw [←hW0];simp
 have hB0:Below w.heap.size w W0:=by rw [←hW0];go_grown
 have ra:W0.heap[w.heap.size]?=some (.cells (vs .u8 32 a) 24):=by rw [←hW0];exact (heap_old (by simp;omega)).trans ((heap_old (by simp)).trans (heap_new rfl))
 have rb:W0.heap[w.heap.size+1]?=some (.cells (vs .u8 32 b) 24):=by rw [←hW0];exact (heap_old (by simp)).trans (heap_new (by simp))
 have rr:W0.heap[w.heap.size+1+1]?=some (.cells (vs .u8 32 fun _=>0) 24):=by rw [←hW0];exact heap_new (by simp)
 obtain ⟨z,hz⟩:∃ z,W0.heap.size=z:=⟨_,rfl⟩
 rw [hz] at s0
 have hdr:Below z W0 W0.drew:=⟨rfl,rfl,rfl,Nat.le_refl _,fun _ _=>rfl⟩
 have hbw:∀ w',Below z W0 w'→Below w.heap.size w w':=fun w' h=>hB0.trans (h.mono (by omega))
 have hap:∀ (m c:Nat→Int) (bb:Nat) w' v n,Below z W0 w'→w'.ownsRow z 5 1 v n (bl m n)→W0.heap[bb]?=some (.cells (vs .u8 32 c) 24)→bb < z→(∀ j,j < 32→m (n+j)=c j)→n≤64→∀ ty,∃g C w'',(ap22 ty v (.slice (some ⟨bb,0,none⟩) 32 32)).run Tryz.prog w'=.ok (.slice (some ⟨g,0,none⟩) (n+32) C) w''∧w''.ownsRow z 5 1 (.slice (some ⟨g,0,none⟩) (n+32) C) (n+32) (bl m (n+32))∧Below z W0 w'':=by
  intro m c bb w' v n h ho hr hbz hm hn ty
  have hzs:z≤w'.heap.size:=by have:=h.size;omega
  obtain ⟨g,C,w'',h1,h2,h3⟩:=ap_root z w' v n m ho bb c (fun j hj=>row_int ((h.block bb hbz).trans hr) j hj) hm hzs hn ty
  exact ⟨g,C,w'',h1,h2,below_grown h ho hzs h3⟩
 have hnew:∀ w',Below z W0 w'→Below z W0 (w'.alloc (.cells #[] 5))∧(w'.alloc (.cells #[] 5)).ownsRow z 5 1 (.slice (some ⟨w'.heap.size,0,none⟩) 0 0) 0 []:=by
  intro w' h
  have hzs:z≤w'.heap.size:=by have:=h.size;omega
  exact ⟨h.alloc hzs _,World.ownsRow_made _ #[] 0 hzs (Nat.zero_le _) rfl⟩
 have hsm:∀ w' g C,Below z W0 w'→w'.ownsRow z 5 1 (.slice (some ⟨g,0,none⟩) (32+32) C) (32+32) (bl (cat a b) (32+32))→Calls Tryz.prog 67 #[.slice (some ⟨g,0,none⟩) 64 C] w' fun e w''=>e=.returned (.agg (vs .u8 32 cx))∧Below z W0 w'':=by
  intro w' g C h ho
  obtain ⟨hg0,hg1,hgC,hCm,hgc⟩:=own_cells ho
  rw [←HCX.out]
  refine (refsum_any KW (cat a b) (some ⟨g,0,none⟩) 64 C w' (HC.out.below (hbw w' h)) (.inr (.inr ⟨g,0,rfl,by omega,hCm,hg1,fun j hj=>by rw [Nat.zero_add];exact hgc j hj⟩)) HAB.out (by omega)).mono ?_
  rintro e w'' ⟨rfl,hb⟩
  exact ⟨rfl,h.trans (hb.mono (by have:=h.size;omega))⟩
 have HDR:=hid hdr
 have HBW:=hid hbw
 have HAP:=hid hap
 have HNEW:=hid hnew
 have HSM:=hid hsm
 have HRA:=hid ra
 have HRB:=hid rb
 have HRR:=hid rr
 have HZ:=hid s0
 clear hW0 s0 hB0 ra rb rr hz hdr hbw hap hnew hsm
 refine wp_region_noPanic ?_
 refine wp_region_held_drew (S:=fun _=>True) (by kernel_rfl) trivial (fun hHeld=>?_)
 refine tk 1 (v:=?v1) ?y1 hHeld ?r1
 case y1=>intro w hSw;go_simp;try with_reducible rfl
 refine tk 3 (v:=?v3) ?y3 hHeld ?r3
 case y3=>intro w hSw;go_simp;try with_reducible rfl
 try simp only [Act.put,z_1,z_2,z_3,z_4,z_5,z_6,z_7]
 refine wpAnyH_ready (rs:=[0]) (by kernel_rfl) (by simp) ?_
 refine AllReadyH.cons rfl (fun K hK=>?_) AllReadyH.nil
 go_simp
 refine hK.out _ _ trivial (fun hHeld=>?_)
 clear hK K
 try simp only [Act.put,z_1,z_2,z_3,z_4,z_5,z_6,z_7]
 refine wpAnyH_ready (rs:=[2]) (by kernel_rfl) (by simp) ?_
 refine AllReadyH.cons rfl (fun K hK=>?_) AllReadyH.nil
 obtain ⟨g1,C1,w10,hr10,ho10,hb10⟩:=HAP.out (cat a b) a w.heap.size _ _ 0 (HNEW.out _ HDR.out).1 (HNEW.out _ HDR.out).2 HRA.out (by have:=HZ.out;omega) (fun j hj=>by unfold cat;rw [Nat.zero_add,if_pos hj]) (by omega) 39
 rw [if_pos (by rfl)]
 refine wp_append_is _ _ rfl _ _ _ _ rfl rfl hr10 ?_
 refine hK.out _ _ trivial (fun hHeld=>?_)
 clear hK K
 try simp only [Act.put,z_1,z_2,z_3,z_4,z_5,z_6,z_7]
 refine wpAnyH_ready (rs:=[4]) (by kernel_rfl) (by simp) ?_
 refine AllReadyH.cons rfl (fun K hK=>?_) AllReadyH.nil
 obtain ⟨g2,C2,w11,hr11,ho11,hb11⟩:=HAP.out (cat a b) b (w.heap.size+1) _ _ 32 hb10 ho10 HRB.out (by have:=HZ.out;omega) (fun j hj=>by unfold cat;rw [if_neg (by omega),show 32+j - 32=j by omega]) (by omega) 39
 rw [if_pos (by rfl)]
 refine wp_append_is _ _ rfl _ _ _ _ rfl rfl hr11 ?_
 refine hK.out _ _ trivial (fun hHeld=>?_)
 clear hK K
 try simp only [Act.put,z_1,z_2,z_3,z_4,z_5,z_6,z_7]
 refine wpAnyH_ready (rs:=[5]) (by kernel_rfl) (by simp) ?_
 refine AllReadyH.cons rfl (fun K hK=>?_) AllReadyH.nil
 go_simp
 refine (HSM.out _ g2 C2 hb11 ho11).mono ?_
 rintro e w12 ⟨rfl,hb12⟩
 dsimp only
 refine hK.out _ _ trivial (fun hHeld=>?_)
 clear hK K
 try simp only [Act.put,z_1,z_2,z_3,z_4,z_5,z_6,z_7]
 have r12:=(hb12.block (w.heap.size+1+1) (by have:=HZ.out;omega)).trans HRR.out
 have v24:=sv24_run r12 cx
 refine wpAnyH_ready (rs:=[6]) (by kernel_rfl) (by simp) ?_
 refine AllReadyH.cons rfl (fun K hK=>?_) AllReadyH.nil
 go_simp
 refine hK.out _ _ trivial (fun hHeld=>?_)
 clear hK K
 try simp only [Act.put,z_1,z_2,z_3,z_4,z_5,z_6,z_7]
 refine wpAnyH_done (by kernel_rfl) ?_ _
 refine NoPanic.normal ?_
 go_wp2
 refine ret24 4 (w.heap.size+1+1) _ 24 rfl rfl rfl (setRow_at r12) ⟨rfl,?_⟩
 exact below_row (HBW.out _ hb12) (by omega) _
def strF (m:Nat→Int) (len:Nat):ByteArray:=((List.range len).map m).foldl (fun r n=>r.push (UInt8.ofNat n.toNat)) ByteArray.empty
theorem conv_bys (w : World) (a : Option Addr) (len cap : Nat) (m : Nat → Int) (h : Bys w a len cap m) :
    (convert 39 9 (.slice a len cap)).run Tryz.prog w=.ok (.string (strF m len)) w:=by
 rw [run_convert_bytes_string w _ _ _ _ _ _ Tryz.underlying39 Tryz.underlying5 Tryz.underlying9]
 have hs:∀ (x:Addr),a=some x→(∀ j,j < len→w.cell? (x.add j)=some (.int .u8 (m j)))→(Conv.bytesToString (.slice a len cap)).run Tryz.prog w=.ok (.string (strF m len)) w:=by
  rintro x rfl hc
  refine run_bytesToString w x len cap ((List.range len).map m) ?_
  have hh:=run_loadCells_list (P:=Tryz.prog) w x (((List.range len).map m).map (Value.int .u8)) (by
   intro j v hj
   rw [List.map_map] at hj
   have hlt:=(List.getElem?_eq_some_iff.1 hj).1
   rw [List.length_map,List.length_range] at hlt
   rw [hc j hlt]
   rw [List.getElem?_map,List.getElem?_range hlt] at hj
   simpa using hj)
  rw [List.length_map,List.length_map,List.length_range] at hh
  exact hh
 rcases h with ⟨rfl,rfl,rfl⟩ | ⟨x,rfl,rfl⟩ | ⟨b,off,rfl,h2,h3,h4,h5⟩
 ·simp [Conv.bytesToString,strF]
 ·exact hs x rfl (fun j hj=>by omega)
 ·exact hs _ rfl (fun j hj=>by rw [addr_add];exact h5 j hj)
end
section
open Go.RowKit
set_option linter.unusedVariables false
set_option linter.unusedSimpArgs false
attribute [local go_sem ↓] sv24_eq lv24_eq ix22_eq slr_eq lv48_eq sv48_eq bd48_eq bd27_eq bs22_eq sl22_eq mk22_eq eqo_eq
def Rc (w:World):Prop:=Tab w 1 64 KW
theorem Rc.below {w w':World} (h:Rc w) (hb:Below w.heap.size w w'):Rc w':=Tab.below h hb
theorem rtwo_tw (a b : Nat → Int) (w : World) (hC : Rc w) (ha : ∀ j, j < 32 → 0 ≤ a j ∧ a j < 256) (hb : ∀ j, j < 32 → 0 ≤ b j ∧ b j < 256) :
    Calls Tryz.prog 45 #[.agg (vs .u8 32 a),.agg (vs .u8 32 b)] w fun e w'=>e=.returned (.agg (vs .u8 32 (tw a b)))∧Below w.heap.size w w' :=
 reftwo_any a b w hC ha hb
set_option maxRecDepth 20000 in
set_option maxHeartbeats 1000000 in
theorem rup_any (leaf f : Nat → Int) (a : Option Addr) (len cap p : Nat) (w : World) (hC : Rc w) (hl : ∀ j, j < 32 → 0 ≤ leaf j ∧ leaf j < 256) (hr : Rts w a len cap f) (hf : ByB f (32 * len)) (hp : p ≤ 18446744073709551615) (h64 : len ≤ 64) :
    Calls Tryz.prog 15 #[.agg (vs .u8 32 leaf),.slice a len cap,.int .u64 p] w fun e w'=>e=.returned (.agg (vs .u8 32 (upV leaf f p len)))∧Below w.heap.size w w':=by
 have HS:=hid hC
 have HL:=hid hl
 have HR:=hid hr
 have HF:=hid hf
 have z:=zero_root
 clear hC hl hr hf
 go_enter Tryz.func15,Tryz.ntmps15
 go_wp2
 go_loopw [7] (fun i wr=>∃ k:Nat,k≤len∧i=.int .i64 k∧Below w.heap.size w wr∧w.heap.size+1 < wr.heap.size∧wr.heap[w.heap.size]?=some (.cells (vs .u8 32 (upV leaf f p k)) 24)∧wr.heap[w.heap.size+1]?=some (.cells (vs .u8 32 fun _=>0) 24)) (fun i _=>len - (intOf i).toNat)
 case atStart =>
  refine ⟨0,by omega,rfl,by go_grown,by simp,?_,?_⟩
  ·exact (heap_old (by simp)).trans (heap_new rfl)
  ·exact heap_new (by simp)
 case round =>
  clear z
  obtain ⟨k,hk,rfl,hB,hz,rl,rr⟩:=hrel
  by_cases hlt:k < len
  ·have b3:decide (k < len)=true:=by simp;omega
   obtain ⟨P,eP⟩:∃ P,P=p / 2 ^ k:=⟨_,rfl⟩
   have hP:P≤18446744073709551615:=by rw [eP];exact Nat.le_trans (Nat.div_le_self _ _) hp
   have s0:(p:Int) / 2 ^ k=(P:Int):=by rw [eP];simp
   obtain ⟨b,o,hbw,hx,hc⟩:=HR.out.at k hlt
   have hbr:∀ j,j < 32→0≤rt32 f k j∧rt32 f k j < 256:=fun j hj=>HF.out _ (by omega)
   have hla:∀ W,Below wr.heap.size wr W→(lv24 ⟨b,o,none⟩).run Tryz.prog W=.ok (.agg (vs .u8 32 (rt32 f k))) W:=fun W h=>lv24_mid (fun j hj=>(below_cell h (by have:=hB.size;omega)).trans ((below_cell hB hbw).trans (hc j hj)))
   have hlb:∀ W,Below wr.heap.size wr W→(lv24 ⟨w.heap.size,0,none⟩).run Tryz.prog W=.ok (.agg (vs .u8 32 (upV leaf f p k))) W:=fun W h=>lv24_run ((h.block _ (by omega)).trans rl)
   have hst:∀ (c:Nat→Int) (w2:World),Below wr.heap.size wr w2→c=upV leaf f p (k+1)→∃ W3,(sv24 ⟨w.heap.size,0,none⟩ (.agg (vs .u8 32 c))).run Tryz.prog w2=.ok () W3∧Below w.heap.size w W3∧w.heap.size+1 < W3.heap.size∧W3.heap[w.heap.size]?=some (.cells (vs .u8 32 (upV leaf f p (k+1))) 24)∧W3.heap[w.heap.size+1]?=some (.cells (vs .u8 32 fun _=>0) 24):=by
    rintro c w2 hb2 rfl
    have r2:=(hb2.block w.heap.size (by omega)).trans rl
    have:=hb2.size
    refine ⟨_,sv24_run r2 _,below_row (hB.trans (hb2.mono (by omega))) (Nat.le_refl _) _,by simp;omega,setRow_at r2,(setRow_other _ _ _ _ (by omega)).trans ((hb2.block _ (by omega)).trans rr)⟩
   have hdr:Below wr.heap.size wr wr.drew:=⟨rfl,rfl,rfl,Nat.le_refl _,fun _ _=>rfl⟩
   have htw:∀ (x y:Nat→Int) (W:World),Below wr.heap.size wr W→(∀ j,j < 32→0≤x j∧x j < 256)→(∀ j,j < 32→0≤y j∧y j < 256)→Calls Tryz.prog 45 #[.agg (vs .u8 32 x),.agg (vs .u8 32 y)] W fun e w'=>e=.returned (.agg (vs .u8 32 (tw x y)))∧Below wr.heap.size wr w':=by
    intro x y W h hxb hyb
    refine (rtwo_tw x y W (HS.out.below (hB.trans (h.mono hB.size))) hxb hyb).mono ?_
    rintro e w' ⟨rfl,hb⟩
    exact ⟨rfl,h.trans (hb.mono h.size)⟩
   have HBR:=hid hbr
   have HLA:=hid hla
   have HLB:=hid hlb
   have HST:=hid hst
   have HDR:=hid hdr
   have HTW:=hid htw
   have HEP:=hid eP
   clear hc hbr hla hlb hst hdr htw rl rr hB eP
   by_cases hodd:P % 2=1
   ·have a1:bits .and .u64 (P:Int) 1=1:=by
     rw [u64_and _ _ (by omega) (by omega) (by omega) (by omega)]
     simp [Nat.and_one_is_mod,hodd]
    have e3:tw (rt32 f k) (upV leaf f p k)=upV leaf f p (k+1):=by
     show _=if p / 2 ^ k % 2=1 then _ else _
     rw [←HEP.out,if_pos hodd]
    have E3:=hid e3
    clear e3
    go_upto_region 5 with fail
    have l1:=HLA.out _ HDR.out
    have l2:=HLB.out _ HDR.out
    go_region_with (go_at_call 45;refine (HTW.out _ _ _ HDR.out HBR.out (upV_bd (f:=f) HL.out p k)).mono ?_;rintro e w2 ⟨rfl,hb2⟩;obtain ⟨W3,sv,h3⟩:=HST.out _ w2 hb2 E3.out)
    all_goals
     go_wp2
     go_roundw
     case rel=>exact ⟨k+1,by omega,by go_num,h3.1,h3.2.1,h3.2.2.1,h3.2.2.2⟩
     case measure=>simp [intOf];omega
   ·have a1:bits .and .u64 (P:Int) 1=0:=by
     rw [u64_and _ _ (by omega) (by omega) (by omega) (by omega)]
     simp [Nat.and_one_is_mod]
     omega
    have e3:tw (upV leaf f p k) (rt32 f k)=upV leaf f p (k+1):=by
     show _=if p / 2 ^ k % 2=1 then _ else _
     rw [←HEP.out,if_neg hodd]
    have E3:=hid e3
    clear e3
    go_upto_region 6 with fail
    have l1:=HLA.out _ HDR.out
    have l2:=HLB.out _ HDR.out
    go_region_with (go_at_call 45;refine (HTW.out _ _ _ HDR.out (upV_bd (f:=f) HL.out p k) HBR.out).mono ?_;rintro e w2 ⟨rfl,hb2⟩;obtain ⟨W3,sv,h3⟩:=HST.out _ w2 hb2 E3.out)
    all_goals
     go_wp2
     go_roundw
     case rel=>exact ⟨k+1,by omega,by go_num,h3.1,h3.2.1,h3.2.2.1,h3.2.2.2⟩
     case measure=>simp [intOf];omega
  ·have ek:k=len:=by omega
   subst ek
   have b3:decide (k < k)=false:=by simp
   have l1:=lv24_run rl
   have s1:=sv24_run rr (upV leaf f p k)
   have HRR:=hid rr
   clear rl rr
   go_wp2
   refine ret24 6 (w.heap.size+1) _ 24 rfl rfl rfl (setRow_at HRR.out) ⟨rfl,below_row hB (by omega) _⟩
end
section
open Go.RowKit
set_option linter.unusedVariables false
set_option linter.unusedSimpArgs false
def apR (ty:TypeId) (x y:Value):Sem Value:=Builtin.append_ #[32,32] ty #[x,y]
theorem wp_appendR_is {P : Program} {o : Oper} {a : Act} {w : World} {K : Act → World → Prop} {Q : Exit → Act → World → Prop} (s x : Operand)
    (ho:o.op=.call { callee:=.builtin .append,args:=#[s,x],argTypes:=#[32,32] }) (ws wx v:Value) (w':World) (hs:a.eval s=ws) (hx:a.eval x=wx)
    (hrun:(apR o.type ws wx).run P w=.ok v w') (h:K (a.put o.dst v) w'):Oper.wp P o a w K Q:=by
 unfold apR at hrun
 unfold Oper.wp execOp
 simp only [ho,resolve,invoke,builtin,Sem.run_bind,Sem.run_pure,Result.andThen_ok,List.map_toArray,List.map_cons,List.map_nil,hs,hx,hrun]
 exact h
attribute [local go_sem ↓] sv24_eq lv24_eq ix22_eq slr_eq lv48_eq sv48_eq bd48_eq bd27_eq sl22_eq mk22_eq eqo_eq
end
section
open Go.RowKit
set_option linter.unusedVariables false
set_option linter.unusedSimpArgs false
theorem yields_neo {ops : Array Oper} {S : World → Prop} {op : Oper} {a : Act} (hw : Region.wanted op (yielded ops a.tmps) = true) (x y : Operand) (rt : TypeId) (ho : op.op = .binOp .neq 24 x y rt) (c d : Nat → Int)
    (hx:a.eval x=.agg (vs .u8 32 c)) (hy:a.eval y=.agg (vs .u8 32 d)):YieldsIf Tryz.prog ops S op (.bool (!eqR c d)) a :=
 .inl ⟨hw,fun w _=>by
  have h:(Op.equalIn Op.maxDepth 24 (.agg (vs .u8 32 c)) (.agg (vs .u8 32 d))).run Tryz.prog w=.ok (eqR c d) w:=eq32g w c d
  unfold execOp
  simp [ho,hx,hy,eqGuard,binOp,Op.equal,h]⟩
attribute [local go_sem ↓] sv24_eq lv24_eq ix22_eq slr_eq lv48_eq sv48_eq bd48_eq bd27_eq bs22_eq sl22_eq mk22_eq eqo_eq
set_option maxRecDepth 20000 in
set_option maxHeartbeats 1000000 in
theorem rsame_true (a b : Option Addr) (len cap cap' : Nat) (f g : Nat → Int) (w : World) (h1 : Rts w a len cap f) (h2 : Rts w b len cap' g) (hfg : ∀ q, q < 32 * len → f q = g q) (hl : len ≤ 140737488355328) :
    Calls Tryz.prog 30 #[.slice a len cap,.slice b len cap'] w fun e w'=>e=.returned (.bool true)∧Below w.heap.size w w':=by
 have H1:=hid h1
 have H2:=hid h2
 have HFG:=hid hfg
 clear h1 h2 hfg
 go_enter Tryz.func30,Tryz.ntmps30
 go_wp2
 go_loopw [5] (fun i wr=>∃ k:Nat,k≤len∧i=.int .i64 k∧Below w.heap.size w wr) (fun i _=>len - (intOf i).toNat)
 case atStart=>exact ⟨0,by omega,rfl,Below.refl _ _⟩
 case round =>
  obtain ⟨k,hk,rfl,hB⟩:=hrel
  by_cases hlt:k < len
  ·have b3:decide (k < len)=true:=by simp;omega
   obtain ⟨b1,o1,hb1,hx1,hc1⟩:=H1.out.at k hlt
   obtain ⟨b2,o2,hb2,hx2,hc2⟩:=H2.out.at k hlt
   have hla:∀ W,Below w.heap.size w W→(lv24 ⟨b1,o1,none⟩).run Tryz.prog W=.ok (.agg (vs .u8 32 (rt32 f k))) W:=fun W h=>lv24_mid (fun j hj=>(below_cell h hb1).trans (hc1 j hj))
   have hlb:∀ W,Below w.heap.size w W→(lv24 ⟨b2,o2,none⟩).run Tryz.prog W=.ok (.agg (vs .u8 32 (rt32 g k))) W:=fun W h=>lv24_mid (fun j hj=>(below_cell h hb2).trans (hc2 j hj))
   have heq:eqR (rt32 f k) (rt32 g k)=true:=by
    have e:=eqR_congr (c:=rt32 f k) (c':=rt32 g k) (d:=rt32 g k) (d':=rt32 g k) (fun j hj=>HFG.out _ (by omega)) (fun _ _=>rfl)
    rw [e]
    exact eqR_self _
   have HLA:=hid hla
   have HLB:=hid hlb
   have HEQ:=hid heq
   have HDR:=hid hB.drew
   clear hla hlb heq hc1 hc2 hB
   go_upto_region 6 with fail
   refine wp_region_noPanic ?_
   refine wp_region_held_drew (S:=fun W=>Below w.heap.size w W) (by kernel_rfl) (HDR.out) (fun hHeld=>?_)
   refine tk 0 (v:=?v1) ?y1 hHeld ?r1
   case y1=>intro w hSw;go_simp;try with_reducible rfl
   refine tk 1 (v:=?v2) ?y2 hHeld ?r2
   case y2=>intro w hSw;go_simp;try with_reducible rfl
   refine tk 2 (v:=?v3) ?y3 hHeld ?r3
   case y3=>intro w hSw;go_simp;try with_reducible rfl
   refine tk 3 (v:=?v4) ?y4 hHeld ?r4
   case y4=>intro w hSw;have ld:=HLA.out _ hSw;go_simp;try with_reducible rfl
   refine tk 4 (v:=?v5) ?y5 hHeld ?r5
   case y5=>intro w hSw;go_simp;try with_reducible rfl
   refine tk 5 (v:=?v6) ?y6 hHeld ?r6
   case y6=>intro w hSw;go_simp;try with_reducible rfl
   refine tk 6 (v:=?v7) ?y7 hHeld ?r7
   case y7=>intro w hSw;go_simp;try with_reducible rfl
   refine tk 7 (v:=?v8) ?y8 hHeld ?r8
   case y8=>intro w hSw;have ld:=HLB.out _ hSw;go_simp;try with_reducible rfl
   try simp only [Act.put,z_1,z_2,z_3,z_4,z_5,z_6,z_7]
   refine wpAnyH_take (i:=8) rfl (by kernel_rfl) (by kernel_rfl) (by kernel_rfl) (fun _ _ _ h=>h) (yields_neo (by rfl) _ _ _ rfl (rt32 f k) (rt32 g k) rfl rfl) hHeld ?_
   rw [HEQ.out,Bool.not_true]
   try simp only [Act.put,z_1,z_2,z_3,z_4,z_5,z_6,z_7]
   refine wpAnyH_done (by kernel_rfl) ?_ _
   refine NoPanic.normal ?_
   go_wp2
   go_roundw
   case rel=>exact ⟨k+1,by omega,by go_num,HDR.out⟩
   case measure=>simp [intOf];omega
  ·have ek:k=len:=by omega
   subst ek
   have b3:decide (k < k)=false:=by simp
   go_wp2
   go_ret
   exact ⟨rfl,hB⟩
theorem shl_one (d:Nat) (hd:d≤40):wrap64 ((2:Int) ^ d)=((2 ^ d:Nat):Int):=by
 have:2 ^ d≤2 ^ 40:=Nat.pow_le_pow_right (by omega) hd
 unfold wrap64
 have e:((2:Int) ^ d)=((2 ^ d:Nat):Int):=by simp
 rw [e]
 have h0:0 < 2 ^ d:=Nat.two_pow_pos d
 generalize 2 ^ d=X at this h0 ⊢
 have h1:(X:Int)≤1099511627776:=by omega
 omega
set_option maxRecDepth 20000 in
set_option maxHeartbeats 1000000 in
theorem rdepth_any (n : Nat) (w : World) (hn : n ≤ 1099511627776) :
    Calls Tryz.prog 112 #[.int .i64 n] w fun e w'=>e=.returned (.int .i64 (dpt n:Nat))∧w'=w:=by
 have hD2:=dpt_le n hn
 have hD3:=dpt_ge n hn
 have hD4:=fun k=>dpt_lt n k hn
 generalize dpt n=D at hD2 hD3 hD4 ⊢
 have HD4:=hid hD4
 clear hD4
 go_enter Tryz.func112,Tryz.ntmps112
 go_wp2
 go_loopw [3] (fun i wr=>∃ k:Nat,k≤D∧i=.int .i64 k∧wr=w) (fun i _=>D - (intOf i).toNat)
 case atStart=>exact ⟨0,by omega,rfl,rfl⟩
 case round =>
  obtain ⟨k,hk,rfl,rfl⟩:=hrel
  have hs:=shl_one k (by omega)
  obtain ⟨X,eX⟩:∃ X:Nat,2 ^ k=X:=⟨_,rfl⟩
  rw [eX] at hs
  by_cases hlt:k < D
  ·have hx:=HD4.out k hlt
   rw [eX] at hx
   have b3:decide (X < n)=true:=by simp;omega
   have b4:decide ((X:Int) < (n:Int))=true:=by simp;omega
   clear eX
   go_wp2
   go_roundw
   case rel=>exact ⟨k+1,by omega,by go_num,by trivial⟩
   case measure=>simp [intOf];omega
  ·have ek:k=D:=by omega
   subst ek
   have b3:decide (X < n)=false:=by simp;omega
   have b4:decide ((X:Int) < (n:Int))=false:=by simp;omega
   clear eX hD3
   go_wp2
   go_ret
   exact ⟨rfl,rfl⟩
end
section
open Go.RowKit
set_option linter.unusedVariables false
set_option linter.unusedSimpArgs false
attribute [local go_sem ↓] sv24_eq lv24_eq ix22_eq slr_eq lv48_eq sv48_eq bd48_eq bd27_eq bs22_eq sl22_eq mk22_eq eqo_eq
end
section
open Go.RowKit
set_option linter.unusedVariables false
set_option linter.unusedSimpArgs false
theorem nd_congr (f g:Nat→Int) (len m:Nat):∀ (e i i':Nat),(∀ t,t < 2 ^ e→∀ j,j < 32→nd f len 0 (i*2 ^ e+t) j=nd g m 0 (i'*2 ^ e+t) j)→∀ j,j < 32→nd f len e i j=nd g m e i' j
 | 0, i, i', h => by
  intro j hj
  have:=h 0 (by simp) j hj
  simpa using this
 | e + 1, i, i', h => by
  intro j hj
  have hp:2 ^ (e+1)=2*2 ^ e:=by rw [Nat.pow_succ,Nat.mul_comm]
  refine tw_congr (nd_congr f g len m e (2*i) (2*i') fun t ht j hj=>?_) (nd_congr f g len m e (2*i+1) (2*i'+1) fun t ht j hj=>?_) j hj
  ·have:=h t (by omega) j hj
   rw [hp] at this
   rw [show 2*i*2 ^ e+t=i*(2*2 ^ e)+t by rw [Nat.mul_comm 2 i,Nat.mul_assoc],show 2*i'*2 ^ e+t=i'*(2*2 ^ e)+t by rw [Nat.mul_comm 2 i',Nat.mul_assoc]]
   exact this
  ·have:=h (2 ^ e+t) (by omega) j hj
   rw [hp] at this
   rw [show (2*i+1)*2 ^ e+t=i*(2*2 ^ e)+(2 ^ e+t) by rw [Nat.add_mul,Nat.one_mul,Nat.mul_comm 2 i,Nat.mul_assoc,Nat.add_assoc],show (2*i'+1)*2 ^ e+t=i'*(2*2 ^ e)+(2 ^ e+t) by rw [Nat.add_mul,Nat.one_mul,Nat.mul_comm 2 i',Nat.mul_assoc,Nat.add_assoc]]
   exact this
def shf (f:Nat→Int) (s:Nat) (q:Nat):Int:=f (32*s+q)
theorem shf_shf (f:Nat→Int) (s t:Nat):shf (shf f s) t=shf f (s+t):=by
 funext q
 unfold shf
 rw [Nat.mul_add,Nat.add_assoc]
theorem rt32_shf (f:Nat→Int) (s i:Nat):rt32 (shf f s) i=rt32 f (s+i):=by
 funext j
 unfold rt32 shf
 rw [Nat.mul_add,Nat.add_assoc]
theorem nd_left (f:Nat→Int) (n d h:Nat) (hh:h=min (2 ^ d) n):∀ j,j < 32→nd f n d 0 j=nd f h d 0 j:=by
 refine nd_congr f f n h d 0 0 fun t ht j hj=>?_
 unfold nd
 rw [Nat.zero_mul,Nat.zero_add]
 by_cases h1:t < n
 ·rw [if_pos h1,if_pos (by omega)]
 ·rw [if_neg h1,if_neg (by omega)]
theorem nd_right (f:Nat→Int) (n d h:Nat) (hh:h=min (2 ^ d) n):∀ j,j < 32→nd f n d 1 j=nd (shf f h) (n - h) d 0 j:=by
 refine nd_congr f (shf f h) n (n - h) d 1 0 fun t ht j hj=>?_
 unfold nd
 rw [Nat.zero_mul,Nat.zero_add,Nat.one_mul]
 by_cases h1:2 ^ d+t < n
 ·rw [if_pos h1,if_pos (by omega),rt32_shf,show h=2 ^ d by omega]
 ·rw [if_neg h1,if_neg (by omega)]
def trV (f:Nat→Int):Nat→Nat→Nat→Nat→Int
 | 0, s, n => if n = 0 then zr 0 else rt32 f s
 | d + 1, s, n => if n = 0 then zr (d + 1) else tw (trV f d s (min (2 ^ d) n)) (trV f d (s + min (2 ^ d) n) (n - min (2 ^ d) n))
theorem trV_nd (f:Nat→Int):∀ (d s n:Nat),n≤2 ^ d→∀ j,j < 32→trV f d s n j=nd (shf f s) n d 0 j
 | 0, s, n, hn => by
  intro j hj
  unfold trV nd
  by_cases h:n=0
  ·rw [if_pos h,if_neg (by omega)]
   rfl
  ·rw [if_neg h,if_pos (by omega),rt32_shf]
   rfl
 | d + 1, s, n, hn => by
  intro j hj
  have hp:2 ^ (d+1)=2*2 ^ d:=by rw [Nat.pow_succ,Nat.mul_comm]
  unfold trV
  by_cases h:n=0
  ·subst h
   rw [if_pos rfl,nd_zero (shf f s) 0 (d+1) 0 (by have:=up_le 0 (d+1);omega)]
  ·rw [if_neg h]
   obtain ⟨m,hm⟩:∃ m,m=min (2 ^ d) n:=⟨_,rfl⟩
   rw [←hm]
   refine tw_congr (fun j hj=>?_) (fun j hj=>?_) j hj
   ·rw [trV_nd f d s m (by omega) j hj]
    exact (nd_left (shf f s) n d m hm j hj).symm
   ·rw [trV_nd f d (s+m) (n - m) (by omega) j hj,←shf_shf]
    exact (nd_right (shf f s) n d m hm j hj).symm
end
end Go.Proofs.YtdamhdnljnifcaaGreatDoor
