/- A part. -/
import Derived.Test.YtfgmddnfhphdeaaGreatDoorHaE
import Derived.Test.YtfgmddnfhphdeaaGreatDoorHaF
import Derived.Test.YtfgmddnfhphdeaaGreatDoorHaD
import Derived.Deep.RegionWith
import Derived.Laws.BytesString
namespace Go.Proofs.YtfgmddnfhphdeaaGreatDoor
open Go.RowKit
set_option linter.unusedVariables false
set_option linter.unusedSimpArgs false
section
open Go.RowKit
set_option linter.unusedVariables false
def sv40 (a:Addr) (v:Value):Sem Unit:=storeVar 146 a v
theorem sv40_eq (a:Addr) (v:Value):storeVar 146 a v=sv40 a v:=rfl
theorem sv40_run {w:World} {b:Nat} {o:Nat→Int} {t:TypeId} (h:w.heap[b]?=some (.cells (vs .u32 8 o) t)) (c:Nat→Int):(sv40 ⟨b,0,none⟩ (.agg (vs .u32 8 c))).run Tryz.prog w=.ok () (w.setRow b (vs .u32 8 c)) :=
 run_storeVar_row w b t 146 _ _ h (by rw [vs_size];kernel_rfl) (by rw [vs_size,vs_size]) (vs_one _ _ _)
theorem lv40_row {w:World} {b:Nat} {c:Nat→Int} {t:TypeId} (h:w.heap[b]?=some (.cells (vs .u32 8 c) t)):(lv40 ⟨b,0,none⟩).run Tryz.prog w=.ok (.agg (vs .u32 8 c)) w :=
 loadAt_var (load_row h 146 _ Tryz.underlying146 rfl (by rw [vs_size];kernel_rfl))
theorem sv40_new (w:World):(sv40 ⟨w.heap.size+1,0,none⟩ (.agg #[.int .u32 1779033703,.int .u32 3144134277,.int .u32 1013904242,.int .u32 2773480762,.int .u32 1359893119,.int .u32 2600822924,.int .u32 528734635,.int .u32 1541459225])).run Tryz.prog ((w.alloc (.cells #[.int .u8 0,.int .u8 0,.int .u8 0,.int .u8 0,.int .u8 0,.int .u8 0,.int .u8 0,.int .u8 0,.int .u8 0,.int .u8 0,.int .u8 0,.int .u8 0,.int .u8 0,.int .u8 0,.int .u8 0,.int .u8 0,.int .u8 0,.int .u8 0,.int .u8 0,.int .u8 0,.int .u8 0,.int .u8 0,.int .u8 0,.int .u8 0,.int .u8 0,.int .u8 0,.int .u8 0,.int .u8 0,.int .u8 0,.int .u8 0,.int .u8 0,.int .u8 0] 24)).alloc (.cells #[.int .u32 0,.int .u32 0,.int .u32 0,.int .u32 0,.int .u32 0,.int .u32 0,.int .u32 0,.int .u32 0] 146))=.ok () ((w.alloc (.cells (vs .u8 32 fun _=>0) 24)).alloc (.cells (vs .u32 8 HW) 146)):=by
 have h:=run_storeVar_new (P:=Tryz.prog) (w.alloc (.cells (vs .u8 32 fun _=>0) 24)) 146 (vs .u32 8 fun _=>0) (vs .u32 8 HW) (by rw [vs_size];kernel_rfl) (by rw [vs_size,vs_size]) (vs_one _ _ _)
 rw [show (w.alloc (.cells (vs .u8 32 fun _=>0) 24)).heap.size=w.heap.size+1 by simp] at h
 exact h
theorem size_row (w:World) (g:Nat) (c:Array Value):(w.setRow g c).heap.size=w.heap.size:=by simp [World.setRow]
attribute [local go_sem ↓] sv24_eq lv24_eq sv40_eq lv40_eq
set_option maxRecDepth 20000 in
set_option maxHeartbeats 1000000 in
theorem refsum_wide (K m : Nat → Int) (a : Option Addr) (len cap : Nat) (w : World) (hK : Tab w 1 64 K) (hb : Bys w a len cap m) (hr : ∀ j, j < len → 0 ≤ m j ∧ m j < 256) (hlen : len ≤ 140737488353280) :
    Calls Tryz.prog 60 #[.slice a len cap] w fun e w'=>e=.returned (.agg (vs .u8 32 (shaV K HW m len)))∧Below w.heap.size w w':=by
 have HK:=hid hK
 have HBY:=hid hb
 have HR:=hid hr
 clear hK hb hr
 go_enter Tryz.func60,Tryz.ntmps60
 have s40:=sv40_new w
 go_upto_region 2 with fail
 obtain ⟨W0,hW0⟩:∃ W,(w.alloc (.cells (vs .u8 32 fun _=>0) 24)).alloc (.cells (vs .u32 8 HW) 146)=W:=⟨_,rfl⟩
 rw [hW0]
 have s0:W0.heap.size=w.heap.size+1+1:=by rw [←hW0];simp
 have hB0:Below w.heap.size w W0:=by rw [←hW0];go_grown
 have r0:W0.heap[w.heap.size]?=some (.cells (vs .u8 32 fun _=>0) 24):=by rw [←hW0];exact (heap_old (by simp)).trans (heap_new rfl)
 have r1:W0.heap[w.heap.size+1]?=some (.cells (vs .u32 8 HW) 146):=by rw [←hW0];exact heap_new (by simp)
 have hp:=padded_wide m a len cap W0 (HBY.out.below hB0) hlen
 have HP:=hid hp
 have HS0:=hid s0
 have HB0:=hid hB0
 have HR0:=hid (And.intro r0 r1)
 clear hW0 s40 s0 hB0 r0 r1 hp
 go_upto_region 3 with (go_at_call 93;refine HP.out.mono ?_;rintro e w1 ⟨g,C,rfl,ho1,hb1⟩)
 obtain ⟨M,hM⟩:∃ M,padM m len=M:=⟨_,rfl⟩
 obtain ⟨Q,hQ⟩:∃ Q,padL len=64*Q:=⟨padL len / 64,by have:=padZ_bd len;unfold padL;omega⟩
 rw [hQ,hM] at ho1
 rw [hQ]
 have hMr:∀ j,0≤M j∧M j < 256:=by
  intro j
  rw [←hM]
  unfold padM
  by_cases hj:j < len
  ·rw [if_pos hj];exact HR.out j hj
  ·rw [if_neg hj];exact padB_bd _ _
 obtain ⟨hg0,hg1,hgC,hCm,hgc⟩:=own_cells ho1
 have hz0:=HS0.out
 have hz1:=hb1.size
 have hQb:64*Q≤140737488355328:=by have:=padZ_bd len;unfold padL at hQ;omega
 have HQ:=hid (And.intro hM hQ)
 have HMR:=hid hMr
 have hB1:Below w.heap.size w w1:=HB0.out.trans (hb1.mono (by omega))
 have r0:=(hb1.block w.heap.size (by omega)).trans HR0.out.1
 have r1:=(hb1.block (w.heap.size+1) (by omega)).trans HR0.out.2
 have g1:w.heap.size+1 < g:=by omega
 clear hM hQ hMr ho1 hz0 hz1 hb1 hg0
 go_loopw [4] (fun v wr=>∃ (q:Nat) (A:Addr),q≤Q∧v=.slice (some A) (64*(Q - q)) (C - 64*q)∧(q < Q→A=⟨g,64*q,none⟩)∧Below w.heap.size w wr∧g < wr.heap.size∧wr.heap[w.heap.size]?=some (.cells (vs .u8 32 fun _=>0) 24)∧wr.heap[w.heap.size+1]?=some (.cells (vs .u32 8 (hsh K HW M q)) 146)∧∀ j,j < 64*Q→wr.cell? ⟨g,j,none⟩=some (.int .u8 (M j))) (fun v _=>sliceLen v)
 case atStart=>exact ⟨0,⟨g,0,none⟩,Nat.zero_le _,rfl,fun _=>rfl,hB1,hg1,r0,r1,hgc⟩
 case round =>
  clear hB1 hg1 r0 r1 hgc
  obtain ⟨q,A,hq,rfl,hA,hB,hgl,r0,r1,hgc⟩:=hrel
  by_cases hlt:q < Q
  ·have hA:=hA hlt
   subst hA
   obtain ⟨s,hs⟩:∃ s,hsh K HW M q=s:=⟨_,rfl⟩
   rw [hs] at r1
   have hsb:=hsh_bd K HW M HW_bd q
   rw [hs] at hsb
   obtain ⟨n1,e1⟩:∃ n1,64*(Q - q)=n1:=⟨_,rfl⟩
   obtain ⟨C1,e2⟩:∃ C1,C - 64*q=C1:=⟨_,rfl⟩
   rw [e1,e2]
   have n2:64≤n1:=by omega
   have n3:n1≤C1:=by omega
   have n4:(64:Int)≤(C1:Int):=by omega
   have n5:(0:Int) < (n1:Int):=by omega
   have n6:(64:Int)≤(n1:Int):=by omega
   have n7:(n1:Int)≤(C1:Int):=by omega
   have l40:=lv40_row (w:=wr.drew) r1
   have hbk:=block_any K (fun j=>M (64*q+j)) s g (64*q) 64 C1 wr.drew (fun i _=>HMR.out _) hsb (HK.out.below (w':=wr.drew) ⟨hB.os,hB.tape,hB.output,hB.size,hB.block⟩) (by omega) (by omega) (fun j hj=>hgc (64*q+j) (by omega)) hgl
   have HBK:=hid hbk
   have R0:=hid r0
   have R1:=hid r1
   have HB:=hid hB
   have HGC:=hid hgc
   have HGL:=hid hgl
   have HSS:=hid hs
   have HEE:=hid (And.intro e1 (And.intro e2 hq))
   clear hbk r0 r1 hB hgc hgl hs hsb e1 e2 hq
   go_wp2
   go_region_with (go_at_call 94;refine HBK.out.mono ?_;rintro e w2 ⟨rfl,hb2⟩;have v40:=sv40_run ((hb2.block (w.heap.size+1) (by have:=HGL.out;show w.heap.size+1 < wr.heap.size;omega)).trans R1.out) (comp K (fun j=>M (64*q+j)) s))
   all_goals
    go_wp2
    obtain ⟨e1,e2,hq⟩:=HEE.out
    obtain ⟨A',hA',hA2⟩:∃ A:Addr,(if C1=64 then some (⟨g,64*q,none⟩:Addr) else some ⟨g,64*q+64,none⟩)=some A∧(q+1 < Q→A=⟨g,64*(q+1),none⟩):=by
     by_cases hCc:C1=64
     ·rw [if_pos hCc];exact ⟨_,rfl,fun h=>absurd h (by omega)⟩
     ·rw [if_neg hCc];exact ⟨_,rfl,fun _=>rfl⟩
    have hgl:=HGL.out
    have hz2:wr.heap.size≤w2.heap.size:=hb2.size
    have hB:=HB.out
    refine ⟨⟨q+1,A',by omega,?_,hA2,?_,?_,?_,?_,?_⟩,?_⟩
    ·rw [hA',show n1 - 64=64*(Q - (q+1)) by omega,show C1 - 64=C - 64*(q+1) by omega]
    ·refine below_row (Below.trans (b:=wr.drew) ⟨hB.os,hB.tape,hB.output,hB.size,hB.block⟩ (hb2.mono hB.size)) (by omega) _
    ·rw [size_row];omega
    ·exact (setRow_other w2 (w.heap.size+1) _ _ (by omega)).trans ((hb2.block _ (show w.heap.size < wr.heap.size by omega)).trans R0.out)
    ·rw [setRow_at ((hb2.block (w.heap.size+1) (show w.heap.size+1 < wr.heap.size by omega)).trans R1.out),←HSS.out]
     rfl
    ·intro j hj
     exact (World.cell?_of_block (w:=w2) (setRow_other w2 (w.heap.size+1) g _ (by omega))).trans ((below_cell hb2 (show g < wr.heap.size by omega)).trans (HGC.out j hj))
    ·show n1 - 64 < n1
     omega
  ·have e:q=Q:=by omega
   subst e
   obtain ⟨s,hs⟩:∃ s,hsh K HW M q=s:=⟨_,rfl⟩
   rw [hs] at r1
   have hsb:=hsh_bd K HW M HW_bd q
   rw [hs] at hsb
   rw [show 64*(q - q)=0 by omega]
   have HSB:=hid hsb
   have HSS:=hid hs
   have x0:w.heap.size < wr.heap.size:=by omega
   have x1:w.heap.size+1 < wr.heap.size:=by omega
   clear hsb hs hgc hlt hq hA hgC hCm hQb g1 hgl
   go_wp2
   change Code.wp _ _ _ _ (wr.alloc (.cells (vs .u8 32 fun _=>0) 24))
   obtain ⟨X,hX⟩:∃ X,wr.heap.size=X:=⟨_,rfl⟩
   rw [hX]
   go_loopw [6] (fun i wx=>∃ k:Nat,k≤32∧i=.int .i64 k∧Below w.heap.size w wx∧X < wx.heap.size∧wx.heap[w.heap.size]?=some (.cells (vs .u8 32 fun _=>0) 24)∧wx.heap[w.heap.size+1]?=some (.cells (vs .u32 8 s) 146)∧wx.heap[X]?=some (.cells (vs .u8 32 fun j=>if j < k then rbt s j else 0) 24)) (fun i _=>32 - (intOf i).toNat)
   case atStart=>exact ⟨0,by omega,rfl,hB.alloc (by omega) _,by simp;omega,(heap_old x0).trans r0,(heap_old x1).trans r1,(heap_new hX.symm).trans (congrArg (fun c=>some (Obj.cells c 24)) (vs_congr fun j _=>by rw [if_neg (by omega)]))⟩
   case round =>
    rw [hX] at x0 x1
    clear hB r0 r1 hX
    obtain ⟨k,hk,rfl,hB,hXl,r0,r1,r2⟩:=hrel
    by_cases hlt:k < 32
    ·obtain ⟨q4,eq4⟩:∃ q4,q4=k / 4:=⟨_,rfl⟩
     obtain ⟨r4,er4⟩:∃ r4,r4=k % 4:=⟨_,rfl⟩
     obtain ⟨e,ee⟩:∃ e,e=24 - 8*r4:=⟨_,rfl⟩
     have t1:(k:Int).tdiv 4=(q4:Int):=by rw [Int.tdiv_eq_ediv_of_nonneg (by omega)];omega
     have t2:(k:Int) / 4=(q4:Int):=by omega
     have t3:(k:Int).tmod 4=(r4:Int):=by rw [Int.tmod_eq_emod_of_nonneg (by omega)];omega
     have t4:(k:Int) % 4=(r4:Int):=by omega
     have t5:(24:Int) - 8*(r4:Int)=(e:Int):=by omega
     have t6:(q4:Int) < 8:=by omega
     have t7:(e:Int)≤24:=by omega
     have t8:(r4:Int) < 4:=by omega
     have t9:(k:Int) < 32:=by omega
     have cq:=row_int r1 q4 (by omega)
     have ck:=row_int r2 k (by omega)
     have fk:=row_frozen r2 k
     obtain ⟨sb1,sb2⟩:=HSB.out q4 (by omega)
     obtain ⟨y,hy⟩:∃ y,s q4=y:=⟨_,rfl⟩
     rw [hy] at cq sb1 sb2
     have HY:=hid (And.intro hy (And.intro eq4 (And.intro er4 ee)))
     have R0:=hid r0
     have R1:=hid r1
     have R2:=hid r2
     have HB:=hid hB
     have HXL:=hid hXl
     clear hy eq4 er4 ee r0 r1 r2 hB hXl
     go_wp2
     go_roundw
     case rel =>
      obtain ⟨hy,eq4,er4,ee⟩:=HY.out
      have hxl:=HXL.out
      refine ⟨k+1,by omega,by go_num,HB.out.setCell (by simp;omega) _,(size_s _ _ _).symm ▸ hxl,(heap_set_other (by omega)).trans R0.out,(heap_set_other (by omega)).trans R1.out,?_⟩
      refine (row_set R2.out k _).trans ?_
      rw [vs_set]
      refine congrArg (fun c=>some (Obj.cells c 24)) (vs_congr fun j _=>?_)
      by_cases hj:j=k
      ·subst hj
       rw [if_pos rfl,if_pos (by omega)]
       unfold rbt
       rw [←eq4,←er4,←ee,hy]
      ·rw [if_neg hj]
       by_cases hj2:j < k
       ·rw [if_pos hj2,if_pos (by omega)]
       ·rw [if_neg hj2,if_neg (by omega)]
     case measure=>simp [intOf];omega
    ·have ek:k=32:=by omega
     subst ek
     rw [show ((32:Nat):Int)=32 from rfl]
     have er:(vs .u8 32 fun j=>if j < 32 then rbt s j else 0)=vs .u8 32 (rbt s):=vs_congr fun j hj=>by rw [if_pos hj]
     rw [er] at r2
     have l24:=lv24_run r2
     have v24:=sv24_run r0 (rbt s)
     have R0:=hid r0
     have HB:=hid hB
     clear r0 r1 r2 hB er
     go_wp2
     refine ret24 2 w.heap.size _ 24 rfl rfl rfl (setRow_at R0.out) ⟨?_,below_row HB.out (Nat.le_refl _) _⟩
     rw [←HSS.out,←HQ.out.1]
     unfold shaV
     rw [HQ.out.2,show 64*q / 64=q by omega]
theorem refsum_any (K m : Nat → Int) (a : Option Addr) (len cap : Nat) (w : World) (hK : Tab w 1 64 K) (hb : Bys w a len cap m) (hr : ∀ j, j < len → 0 ≤ m j ∧ m j < 256) (hlen : len ≤ 140737488351232) :
    Calls Tryz.prog 60 #[.slice a len cap] w fun e w'=>e=.returned (.agg (vs .u8 32 (shaV K HW m len)))∧Below w.heap.size w w':=refsum_wide K m a len cap w hK hb hr (by omega)
end
section
open Go.RowKit
set_option linter.unusedVariables false
set_option linter.unusedSimpArgs false
attribute [local go_sem ↓] sv24_eq lv24_eq
set_option maxRecDepth 20000 in
set_option maxHeartbeats 1000000 in
theorem reftwo_any (a b : Nat → Int) (w : World) (hC : Tab w 1 64 KW) (ha : ∀ j, j < 32 → 0 ≤ a j ∧ a j < 256) (hb : ∀ j, j < 32 → 0 ≤ b j ∧ b j < 256) :
    Calls Tryz.prog 38 #[.agg (vs .u8 32 a),.agg (vs .u8 32 b)] w fun e w'=>e=.returned (.agg (vs .u8 32 (shaV KW HW (cat a b) 64)))∧Below w.heap.size w w':=by
 obtain ⟨cx,hcx⟩:∃ c,shaV KW HW (cat a b) 64=c:=⟨_,rfl⟩
 rw [hcx]
 have hcab:∀ j,j < 64→0≤cat a b j∧cat a b j < 256:=by
  intro j hj
  unfold cat
  by_cases h:j < 32
  ·rw [if_pos h];exact ha j h
  ·rw [if_neg h];exact hb _ (by omega)
 have HC:=hid hC
 have HAB:=hid hcab
 have HCX:=hid hcx
 clear hC ha hb hcab hcx
 go_enter Tryz.func38,Tryz.ntmps38
 go_upto_region 1 with fail
 change Code.wp _ _ _ _ (((w.alloc (.cells (vs .u8 32 a) 24)).alloc (.cells (vs .u8 32 b) 24)).alloc (.cells (vs .u8 32 fun _=>0) 24))
 obtain ⟨W0,hW0⟩:∃ W,((w.alloc (.cells (vs .u8 32 a) 24)).alloc (.cells (vs .u8 32 b) 24)).alloc (.cells (vs .u8 32 fun _=>0) 24)=W:=⟨_,rfl⟩
 rw [hW0]
 have s0:W0.heap.size=w.heap.size+1+1+1:=by rw [←hW0];simp
 have hB0:Below w.heap.size w W0:=by rw [←hW0];go_grown
 have ra:W0.heap[w.heap.size]?=some (.cells (vs .u8 32 a) 24):=by rw [←hW0];exact (heap_old (by simp;omega)).trans ((heap_old (by simp)).trans (heap_new rfl))
 have rb:W0.heap[w.heap.size+1]?=some (.cells (vs .u8 32 b) 24):=by rw [←hW0];exact (heap_old (by simp)).trans (heap_new (by simp))
 have rr:W0.heap[w.heap.size+1+1]?=some (.cells (vs .u8 32 fun _=>0) 24):=by rw [←hW0];exact heap_new (by simp)
 obtain ⟨z,hz⟩:∃ z,W0.heap.size=z:=⟨_,rfl⟩
 rw [hz] at s0
 have hdr:Below z W0 W0.drew:=⟨rfl,rfl,rfl,Nat.le_refl _,fun _ _=>rfl⟩
 have hbw:∀ w',Below z W0 w'→Below w.heap.size w w':=fun w' h=>hB0.trans (h.mono (by omega))
 have hap:∀ (m c:Nat→Int) (bb:Nat) w' v n,Below z W0 w'→w'.ownsRow z 5 1 v n (bl m n)→W0.heap[bb]?=some (.cells (vs .u8 32 c) 24)→bb < z→(∀ j,j < 32→m (n+j)=c j)→n≤64→∀ ty,∃g C w'',(ap22 ty v (.slice (some ⟨bb,0,none⟩) 32 32)).run Tryz.prog w'=.ok (.slice (some ⟨g,0,none⟩) (n+32) C) w''∧w''.ownsRow z 5 1 (.slice (some ⟨g,0,none⟩) (n+32) C) (n+32) (bl m (n+32))∧Below z W0 w'':=by
  intro m c bb w' v n h ho hr hbz hm hn ty
  have hzs:z≤w'.heap.size:=by have:=h.size;omega
  obtain ⟨g,C,w'',h1,h2,h3⟩:=ap_root z w' v n m ho bb c (fun j hj=>row_int ((h.block bb hbz).trans hr) j hj) hm hzs hn ty
  exact ⟨g,C,w'',h1,h2,below_grown h ho hzs h3⟩
 have hnew:∀ w',Below z W0 w'→Below z W0 (w'.alloc (.cells #[] 5))∧(w'.alloc (.cells #[] 5)).ownsRow z 5 1 (.slice (some ⟨w'.heap.size,0,none⟩) 0 0) 0 []:=by
  intro w' h
  have hzs:z≤w'.heap.size:=by have:=h.size;omega
  exact ⟨h.alloc hzs _,World.ownsRow_made _ #[] 0 hzs (Nat.zero_le _) rfl⟩
 have hsm:∀ w' g C,Below z W0 w'→w'.ownsRow z 5 1 (.slice (some ⟨g,0,none⟩) (32+32) C) (32+32) (bl (cat a b) (32+32))→Calls Tryz.prog 60 #[.slice (some ⟨g,0,none⟩) 64 C] w' fun e w''=>e=.returned (.agg (vs .u8 32 cx))∧Below z W0 w'':=by
  intro w' g C h ho
  obtain ⟨hg0,hg1,hgC,hCm,hgc⟩:=own_cells ho
  rw [←HCX.out]
  refine (refsum_any KW (cat a b) (some ⟨g,0,none⟩) 64 C w' (HC.out.below (hbw w' h)) (.inr (.inr ⟨g,0,rfl,by omega,hCm,hg1,fun j hj=>by rw [Nat.zero_add];exact hgc j hj⟩)) HAB.out (by omega)).mono ?_
  rintro e w'' ⟨rfl,hb⟩
  exact ⟨rfl,h.trans (hb.mono (by have:=h.size;omega))⟩
 have HDR:=hid hdr
 have HBW:=hid hbw
 have HAP:=hid hap
 have HNEW:=hid hnew
 have HSM:=hid hsm
 have HRA:=hid ra
 have HRB:=hid rb
 have HRR:=hid rr
 have HZ:=hid s0
 clear hW0 s0 hB0 ra rb rr hz hdr hbw hap hnew hsm
 refine wp_region_noPanic ?_
 refine wp_region_held_drew (S:=fun _=>True) (by kernel_rfl) trivial (fun hHeld=>?_)
 refine tk 1 (v:=?v1) ?y1 hHeld ?r1
 case y1=>intro w hSw;go_simp;try with_reducible rfl
 refine tk 3 (v:=?v3) ?y3 hHeld ?r3
 case y3=>intro w hSw;go_simp;try with_reducible rfl
 try simp only [Act.put,z_1,z_2,z_3,z_4,z_5,z_6,z_7]
 refine wpAnyH_ready (rs:=[0]) (by kernel_rfl) (by simp) ?_
 refine AllReadyH.cons rfl (fun K hK=>?_) AllReadyH.nil
 go_simp
 refine hK.out _ _ trivial (fun hHeld=>?_)
 clear hK K
 try simp only [Act.put,z_1,z_2,z_3,z_4,z_5,z_6,z_7]
 refine wpAnyH_ready (rs:=[2]) (by kernel_rfl) (by simp) ?_
 refine AllReadyH.cons rfl (fun K hK=>?_) AllReadyH.nil
 obtain ⟨g1,C1,w10,hr10,ho10,hb10⟩:=HAP.out (cat a b) a w.heap.size _ _ 0 (HNEW.out _ HDR.out).1 (HNEW.out _ HDR.out).2 HRA.out (by have:=HZ.out;omega) (fun j hj=>by unfold cat;rw [Nat.zero_add,if_pos hj]) (by omega) 39
 rw [if_pos (by rfl)]
 refine wp_append_is _ _ rfl _ _ _ _ rfl rfl hr10 ?_
 refine hK.out _ _ trivial (fun hHeld=>?_)
 clear hK K
 try simp only [Act.put,z_1,z_2,z_3,z_4,z_5,z_6,z_7]
 refine wpAnyH_ready (rs:=[4]) (by kernel_rfl) (by simp) ?_
 refine AllReadyH.cons rfl (fun K hK=>?_) AllReadyH.nil
 obtain ⟨g2,C2,w11,hr11,ho11,hb11⟩:=HAP.out (cat a b) b (w.heap.size+1) _ _ 32 hb10 ho10 HRB.out (by have:=HZ.out;omega) (fun j hj=>by unfold cat;rw [if_neg (by omega),show 32+j - 32=j by omega]) (by omega) 39
 rw [if_pos (by rfl)]
 refine wp_append_is _ _ rfl _ _ _ _ rfl rfl hr11 ?_
 refine hK.out _ _ trivial (fun hHeld=>?_)
 clear hK K
 try simp only [Act.put,z_1,z_2,z_3,z_4,z_5,z_6,z_7]
 refine wpAnyH_ready (rs:=[5]) (by kernel_rfl) (by simp) ?_
 refine AllReadyH.cons rfl (fun K hK=>?_) AllReadyH.nil
 go_simp
 refine (HSM.out _ g2 C2 hb11 ho11).mono ?_
 rintro e w12 ⟨rfl,hb12⟩
 dsimp only
 refine hK.out _ _ trivial (fun hHeld=>?_)
 clear hK K
 try simp only [Act.put,z_1,z_2,z_3,z_4,z_5,z_6,z_7]
 have r12:=(hb12.block (w.heap.size+1+1) (by have:=HZ.out;omega)).trans HRR.out
 have v24:=sv24_run r12 cx
 refine wpAnyH_ready (rs:=[6]) (by kernel_rfl) (by simp) ?_
 refine AllReadyH.cons rfl (fun K hK=>?_) AllReadyH.nil
 go_simp
 refine hK.out _ _ trivial (fun hHeld=>?_)
 clear hK K
 try simp only [Act.put,z_1,z_2,z_3,z_4,z_5,z_6,z_7]
 refine wpAnyH_done (by kernel_rfl) ?_ _
 refine NoPanic.normal ?_
 go_wp2
 refine ret24 4 (w.heap.size+1+1) _ 24 rfl rfl rfl (setRow_at r12) ⟨rfl,?_⟩
 exact below_row (HBW.out _ hb12) (by omega) _
def strF (m:Nat→Int) (len:Nat):ByteArray:=((List.range len).map m).foldl (fun r n=>r.push (UInt8.ofNat n.toNat)) ByteArray.empty
theorem conv_bys (w : World) (a : Option Addr) (len cap : Nat) (m : Nat → Int) (h : Bys w a len cap m) :
    (convert 39 9 (.slice a len cap)).run Tryz.prog w=.ok (.string (strF m len)) w:=by
 rw [run_convert_bytes_string w _ _ _ _ _ _ Tryz.underlying39 Tryz.underlying5 Tryz.underlying9]
 have hs:∀ (x:Addr),a=some x→(∀ j,j < len→w.cell? (x.add j)=some (.int .u8 (m j)))→(Conv.bytesToString (.slice a len cap)).run Tryz.prog w=.ok (.string (strF m len)) w:=by
  rintro x rfl hc
  refine run_bytesToString w x len cap ((List.range len).map m) ?_
  have hh:=run_loadCells_list (P:=Tryz.prog) w x (((List.range len).map m).map (Value.int .u8)) (by
   intro j v hj
   rw [List.map_map] at hj
   have hlt:=(List.getElem?_eq_some_iff.1 hj).1
   rw [List.length_map,List.length_range] at hlt
   rw [hc j hlt]
   rw [List.getElem?_map,List.getElem?_range hlt] at hj
   simpa using hj)
  rw [List.length_map,List.length_map,List.length_range] at hh
  exact hh
 rcases h with ⟨rfl,rfl,rfl⟩ | ⟨x,rfl,rfl⟩ | ⟨b,off,rfl,h2,h3,h4,h5⟩
 ·simp [Conv.bytesToString,strF]
 ·exact hs x rfl (fun j hj=>by omega)
 ·exact hs _ rfl (fun j hj=>by rw [addr_add];exact h5 j hj)
end
end Go.Proofs.YtfgmddnfhphdeaaGreatDoor
