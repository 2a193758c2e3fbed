/- A part. -/
import Derived.Test.YtfgmddnfhphdeaaGreatDoorMaE
import Derived.Test.YtfgmddnfhphdeaaGreatDoorQA
import Derived.Test.YtfgmddnfhphdeaaGreatDoorQB
import Derived.Deep.Onto
namespace Go.Proofs.YtfgmddnfhphdeaaGreatDoor
open Go.RowKit
set_option linter.unusedVariables false
set_option linter.unusedSimpArgs false
section
open Go.RowKit
set_option linter.unusedVariables false
set_option linter.unusedSimpArgs false
theorem bt_nmB (n:Int):(#[.int .u8 (Z.bt n 0),.int .u8 (Z.bt n 1),.int .u8 (Z.bt n 2),.int .u8 (Z.bt n 3),.int .u8 (Z.bt n 4),.int .u8 (Z.bt n 5),.int .u8 (Z.bt n 6),.int .u8 (Z.bt n 7)]:Array Value)=vs .u8 8 (nmB n):=by
 have e:vs .u8 8 (nmB n)=#[.int .u8 (nmB n 0),.int .u8 (nmB n 1),.int .u8 (nmB n 2),.int .u8 (nmB n 3),.int .u8 (nmB n 4),.int .u8 (nmB n 5),.int .u8 (nmB n 6),.int .u8 (nmB n 7)]:=rfl
 rw [e]
 have h0:nmB n 0=Z.bt n 0:=by show n / 1 % 256=n % 256;omega
 have h1:nmB n 1=Z.bt n 1:=rfl
 have h2:nmB n 2=Z.bt n 2:=rfl
 have h3:nmB n 3=Z.bt n 3:=rfl
 have h4:nmB n 4=Z.bt n 4:=rfl
 have h5:nmB n 5=Z.bt n 5:=rfl
 have h6:nmB n 6=Z.bt n 6:=rfl
 have h7:nmB n 7=Z.bt n 7:=rfl
 rw [h0,h1,h2,h3,h4,h5,h6,h7]
theorem nmB_bd (n:Int) (j:Nat):0≤nmB n j∧nmB n j < 256:=by
 unfold nmB
 exact ⟨Int.emod_nonneg _ (by decide),Int.emod_lt_of_pos _ (by decide)⟩
def sv8 (a:Addr) (v:Value):Sem Unit:=storeVar 119 a v
theorem sv8_eq (a:Addr) (v:Value):storeVar 119 a v=sv8 a v:=rfl
theorem sv8_newv (W:World) (o c:Nat→Int):(sv8 ⟨W.heap.size,0,none⟩ (.agg (vs .u8 8 c))).run Tryz.prog (W.alloc (.cells (vs .u8 8 o) 119))=.ok () (W.alloc (.cells (vs .u8 8 c) 119)) :=
 run_storeVar_new W 119 _ _ (by rw [vs_size];kernel_rfl) (by rw [vs_size,vs_size]) (vs_one _ _ _)
theorem zero_8:∀ w:World,(zeroValue 119).run Tryz.prog w=.ok (.agg (vs .u8 8 fun _=>0)) w:=(zero_of_info (n:=8) (by kernel_rfl)).1
theorem bys_new {w:World} {t:TypeId} {g n:Nat} {f:Nat→Int} (h:w.heap[g]?=some (.cells (vs .u8 n f) t)) (hn:n≤9223372036854775807):Bys w (some ⟨g,0,none⟩) n n f :=
 .inr (.inr ⟨g,0,rfl,Nat.le_refl _,hn,(Array.getElem?_eq_some_iff.1 h).1,fun j hj=>by rw [Nat.zero_add];exact row_int h j hj⟩)
end
section
open Go.RowKit
set_option linter.unusedVariables false
set_option linter.unusedSimpArgs false
attribute [local go_sem ↓] sv24_eq lv24_eq ix22_eq slr_eq bd27_eq bs22_eq sv8_eq
set_option maxRecDepth 20000 in
set_option maxHeartbeats 1000000 in
theorem nbytes_any (n : Int) (w : World) (h0 : 0 ≤ n) (h1 : n < 18446744073709551616) :
    Calls Tryz.prog 89 #[.int .u64 n] w fun e w'=>∃ g,e=.returned (.slice (some ⟨g,0,none⟩) 8 8)∧Below w.heap.size w w'∧w.heap.size≤g∧w'.heap[g]?=some (.cells (vs .u8 8 (nmB n)) 119):=by
 have hb:=Z.bytes_any n w h0 h1
 rw [bt_nmB] at hb
 have HB:=hid hb
 have sv:=fun W=>sv8_newv W (fun _=>0) (nmB n)
 have z:=zero_8
 clear hb
 go_enter Tryz.func89,Tryz.ntmps89
 go_wp2_with (go_at_call 113;refine HB.out.mono ?_;rintro e w1 ⟨rfl,hb1⟩)
 go_ret
 exact ⟨w1.heap.size,rfl,hb1.alloc hb1.size _,hb1.size,heap_new rfl⟩
def cks (len:Nat):Nat:=(len+31) / 32
def bR (f:Nat→Int) (len:Nat):Nat→Int:=treeV (pk f len) (cks len) (cks len:Nat)
set_option maxRecDepth 20000 in
set_option maxHeartbeats 1000000 in
theorem rootof_any (a : Option Addr) (len cap : Nat) (f : Nat → Int) (w : World) (hr : Rts w a len cap f) (hl : 32 * len ≤ 140737488355328) (hf : ByB f (32 * len)) (hS : Sh w) :
    Calls Tryz.prog 46 #[.slice a len cap] w fun e w'=>e=.returned (.agg (vs .u8 32 (treeV f len (len:Nat))))∧Below w.heap.size w w':=by
 have z:=zero_root
 have hB0:Below w.heap.size w (w.alloc (.cells (vs .u8 32 fun _=>0) 24)):=(Below.refl _ _).alloc (Nat.le_refl _) _
 have r0:(w.alloc (.cells (vs .u8 32 fun _=>0) 24)).heap[w.heap.size]?=some (.cells (vs .u8 32 fun _=>0) 24):=heap_new rfl
 have z0:(w.alloc (.cells (vs .u8 32 fun _=>0) 24)).heap.size=w.heap.size+1:=by simp
 obtain ⟨W0,hW0⟩:∃ W,w.alloc (.cells (vs .u8 32 fun _=>0) 24)=W:=⟨_,rfl⟩
 rw [hW0] at hB0 r0 z0
 have ht:=tree_any a len cap f (len:Nat) W0 (hr.below hB0) hl hf (hS.below hB0) (by omega) (by omega)
 obtain ⟨C,eC⟩:∃ C,treeV f len (len:Nat)=C:=⟨_,rfl⟩
 obtain ⟨E,eE⟩:∃ E,treeE len (len:Nat)=E:=⟨_,rfl⟩
 rw [eC,eE] at ht
 rw [eC]
 have sv:=fun W=>sv24_newv W (fun _=>0) C
 have HT:=hid ht
 have R0:=hid r0
 have HB0:=hid hB0
 clear ht r0 hB0 hS hr hf eC eE
 go_enter Tryz.func46,Tryz.ntmps46
 go_upto_region 2 with (go_at_call 87;refine HT.out.mono ?_;rintro e w1 ⟨rfl,hb1⟩)
 obtain ⟨W2,hW2⟩:∃ W,w1.alloc (.cells (vs .u8 32 C) 24)=W:=⟨_,rfl⟩
 rw [hW2]
 have hz1:=hb1.size
 have r1:W2.heap[w1.heap.size]?=some (.cells (vs .u8 32 C) 24):=by rw [←hW2];exact heap_new rfl
 have r0':W2.heap[w.heap.size]?=some (.cells (vs .u8 32 fun _=>0) 24):=by rw [←hW2];exact (heap_old (by omega)).trans ((hb1.block _ (by omega)).trans R0.out)
 have hB2:Below w.heap.size w W2:=by rw [←hW2];exact (HB0.out.trans (hb1.mono (by omega))).alloc (by omega) _
 have l1:=lv24_run r1
 have s1:=sv24_run r0' C
 have HR0:=hid r0'
 have HB2:=hid hB2
 clear r1 r0' hB2 hW2 hb1 sv HT
 go_wp2
 refine ret24 2 w.heap.size _ 24 rfl rfl rfl (setRow_at HR0.out) ⟨rfl,?_⟩
 exact below_row HB2.out (Nat.le_refl _) _
set_option maxRecDepth 20000 in
set_option maxHeartbeats 1000000 in
theorem broot_any (a : Option Addr) (len cap : Nat) (f : Nat → Int) (w : World) (hb : Bys w a len cap f) (hl : len ≤ 1073741824) (hf : ∀ j, j < len → 0 ≤ f j ∧ f j < 256) (hS : Sh w) :
    Calls Tryz.prog 47 #[.slice a len cap] w fun e w'=>e=.returned (.agg (vs .u8 32 (bR f len)))∧Below w.heap.size w w':=by
 have z:=zero_root
 have hB0:Below w.heap.size w (w.alloc (.cells (vs .u8 32 fun _=>0) 24)):=(Below.refl _ _).alloc (Nat.le_refl _) _
 have r0:(w.alloc (.cells (vs .u8 32 fun _=>0) 24)).heap[w.heap.size]?=some (.cells (vs .u8 32 fun _=>0) 24):=heap_new rfl
 have z0:(w.alloc (.cells (vs .u8 32 fun _=>0) 24)).heap.size=w.heap.size+1:=by simp
 obtain ⟨W0,hW0⟩:∃ W,w.alloc (.cells (vs .u8 32 fun _=>0) 24)=W:=⟨_,rfl⟩
 rw [hW0] at hB0 r0 z0
 have hp:=pack_any a len cap f W0 (hb.below hB0) (by omega)
 obtain ⟨g0,eg⟩:∃ g,W0.heap.size=g:=⟨_,rfl⟩
 have hg0:w.heap.size < g0:=by omega
 obtain ⟨N,eN⟩:∃ N,(len+31) / 32=N:=⟨_,rfl⟩
 have ev:bR f len=treeV (pk f len) N (N:Nat):=by unfold bR cks;rw [eN]
 rw [eN,eg] at hp
 have hN:N≤1073741824:=by omega
 have hro:∀ W:World,Below w.heap.size w W→W.heap[g0]?=some (.cells (vs .u8 (32*N) (pk f len)) 24)→Calls Tryz.prog 46 #[.slice (some ⟨g0,0,none⟩) N N] W fun e w'=>e=.returned (.agg (vs .u8 32 (bR f len)))∧Below W.heap.size W w':=fun W h1 h2=>by
  rw [ev]
  exact rootof_any (some ⟨g0,0,none⟩) N N (pk f len) W (rts_row h2) (by omega) (pk_bd hf _) (hS.below h1)
 obtain ⟨C,eC⟩:∃ C,bR f len=C:=⟨_,rfl⟩
 rw [eC] at hro
 rw [eC]
 have HP:=hid hp
 have HRO:=hid hro
 have R0:=hid r0
 have HB0:=hid hB0
 clear hp hro r0 hB0 hS hb hf eC ev eN eg z0
 go_enter Tryz.func47,Tryz.ntmps47
 go_wp2_with (first
  | (go_at_call 88; refine HP.out.mono ?_; rintro e w1 ⟨rfl, hb1, hz1, hr1⟩; have HR1 := hid (HRO.out w1 (HB0.out.trans (hb1.mono (by omega))) hr1); have HB1 := hid hb1; clear hb1 hr1)
  | (go_at_call 46; refine HR1.out.mono ?_; rintro e w2 ⟨rfl, hb2⟩; have s1 := sv24_run ((hb2.block w.heap.size (by omega)).trans ((HB1.out.block w.heap.size (by omega)).trans R0.out)) C))
 refine ret24 2 w.heap.size _ 24 rfl rfl rfl (setRow_at ((hb2.block w.heap.size (by omega)).trans ((HB1.out.block w.heap.size (by omega)).trans R0.out))) ⟨rfl,?_⟩
 exact below_row (HB0.out.trans ((HB1.out.mono (by omega)).trans (hb2.mono (by omega)))) (Nat.le_refl _) _
set_option maxRecDepth 20000 in
set_option maxHeartbeats 1000000 in
theorem nroot7 (n : Int) (w : World) (h0 : 0 ≤ n) (h1 : n < 18446744073709551616) (hS : Sh w) :
    Calls Tryz.prog 48 #[.int .u64 n] w fun e w'=>e=.returned (.agg (vs .u8 32 (bR (nmB n) 8)))∧Below w.heap.size w w':=by
 have z:=zero_root
 have hB0:Below w.heap.size w (w.alloc (.cells (vs .u8 32 fun _=>0) 24)):=(Below.refl _ _).alloc (Nat.le_refl _) _
 have r0:(w.alloc (.cells (vs .u8 32 fun _=>0) 24)).heap[w.heap.size]?=some (.cells (vs .u8 32 fun _=>0) 24):=heap_new rfl
 have z0:(w.alloc (.cells (vs .u8 32 fun _=>0) 24)).heap.size=w.heap.size+1:=by simp
 obtain ⟨W0,hW0⟩:∃ W,w.alloc (.cells (vs .u8 32 fun _=>0) 24)=W:=⟨_,rfl⟩
 rw [hW0] at hB0 r0 z0
 have hp:=nbytes_any n W0 h0 h1
 have hro:∀ (W:World) g,Below w.heap.size w W→W.heap[g]?=some (.cells (vs .u8 8 (nmB n)) 119)→Calls Tryz.prog 47 #[.slice (some ⟨g,0,none⟩) 8 8] W fun e w'=>e=.returned (.agg (vs .u8 32 (bR (nmB n) 8)))∧Below W.heap.size W w':=fun W g h1 h2 =>
  broot_any (some ⟨g,0,none⟩) 8 8 (nmB n) W (bys_new h2 (by omega)) (by omega) (fun j _=>nmB_bd n j) (hS.below h1)
 obtain ⟨C,eC⟩:∃ C,bR (nmB n) 8=C:=⟨_,rfl⟩
 rw [eC] at hro
 rw [eC]
 have HP:=hid hp
 have HRO:=hid hro
 have R0:=hid r0
 have HB0:=hid hB0
 clear hp hro r0 hB0 hS eC
 go_enter Tryz.func48,Tryz.ntmps48
 go_wp2_with (first
  | (go_at_call 89; refine HP.out.mono ?_; rintro e w1 ⟨g, rfl, hb1, hg1, hr1⟩; have hz1 := hb1.size; have HR1 := hid (HRO.out w1 g (HB0.out.trans (hb1.mono (by omega))) hr1); have HB1 := hid hb1; clear hb1 hr1)
  | (go_at_call 47; refine HR1.out.mono ?_; rintro e w2 ⟨rfl, hb2⟩; have s1 := sv24_run ((hb2.block w.heap.size (by omega)).trans ((HB1.out.block w.heap.size (by omega)).trans R0.out)) C))
 refine ret24 2 w.heap.size _ 24 rfl rfl rfl (setRow_at ((hb2.block w.heap.size (by omega)).trans ((HB1.out.block w.heap.size (by omega)).trans R0.out))) ⟨rfl,?_⟩
 exact below_row (HB0.out.trans ((HB1.out.mono (by omega)).trans (hb2.mono (by omega)))) (Nat.le_refl _) _
end
section
open Go.RowKit
set_option linter.unusedVariables false
set_option linter.unusedSimpArgs false
def ct7:List (Nat × (Nat→Int))→Nat→Int
 | [], _ => 0
 | p :: r, q => if q < p.1 then p.2 q else ct7 r (q - p.1)
def ln7:List (Nat × (Nat→Int))→Nat
 | [] => 0
 | p :: r => p.1 + ln7 r
def cl7:List (Nat × (Nat→Int))→List Int
 | [] => []
 | p :: r => (List.range p.1).map p.2 ++ cl7 r
theorem cl7_len:∀ qs,(cl7 qs).length=ln7 qs
 | [] => rfl
 | p :: r => by
  show ((List.range p.1).map p.2++cl7 r).length=p.1+ln7 r
  rw [List.length_append,List.length_map,List.length_range,cl7_len r]
theorem cl7_app:∀ qs p,cl7 (qs++[p])=cl7 qs++(List.range p.1).map p.2
 | [], p => by show (List.range p.1).map p.2 ++ [] = [] ++ _; rw [List.append_nil, List.nil_append]
 | x :: r, p => by
  show (List.range x.1).map x.2++cl7 (r++[p])=((List.range x.1).map x.2++cl7 r)++_
  rw [cl7_app r p,List.append_assoc]
theorem ct7_cl7:∀ qs q,q < ln7 qs→(cl7 qs)[q]?=some (ct7 qs q)
 | [], q, h => absurd h (Nat.not_lt_zero _)
 | p :: r, q, h => by
  have h':q < p.1+ln7 r:=h
  show ((List.range p.1).map p.2++cl7 r)[q]?=some (if q < p.1 then p.2 q else ct7 r (q - p.1))
  by_cases hq:q < p.1
  ·rw [if_pos hq,List.getElem?_append_left (by simpa using hq),List.getElem?_map,List.getElem?_range hq]
   rfl
  ·rw [if_neg hq,List.getElem?_append_right (by simpa using hq)]
   rw [List.length_map,List.length_range]
   exact ct7_cl7 r (q - p.1) (by omega)
theorem bl_ct7 (qs:List (Nat × (Nat→Int))):bl (ct7 qs) (ln7 qs)=Z.iv (cl7 qs):=by
 apply List.ext_getElem?
 intro q
 unfold Z.iv
 rw [List.getElem?_map]
 by_cases hq:q < ln7 qs
 ·rw [bl_at _ _ _ hq,ct7_cl7 qs q hq]
  rfl
 ·rw [List.getElem?_eq_none (by rw [bl_len];omega),List.getElem?_eq_none (by rw [cl7_len];omega)]
  rfl
theorem ln7_app:∀ qs p,ln7 (qs++[p])=ln7 qs+p.1
 | [], p => by show p.1 + 0 = 0 + p.1; omega
 | x :: r, p => by
  show x.1+ln7 (r++[p])=x.1+ln7 r+p.1
  rw [ln7_app r p];omega
abbrev Pt:=Option Addr × Nat × Nat × (Nat→Int)
def nilP:Pt:=(none,0,0,fun _=>0)
def ptv (p:Pt):Value:=.slice p.1 p.2.1 p.2.2.1
def ptb (p:Pt):Nat × (Nat→Int):=(p.2.1,p.2.2.2)
theorem pt_cell {w:World} {g:Nat} {ps:List Pt} {t:TypeId} (hg:w.heap[g]?=some (.cells (ps.map ptv).toArray t)) (r:Nat) (hr:r < ps.length):w.cell? ⟨g,r,none⟩=some (ptv (ps.getD r nilP)):=by
 rw [row_cell hg,List.getElem?_toArray,List.getElem?_map,List.getD_eq_getElem?_getD,List.getElem?_eq_getElem hr]
 rfl
theorem lay_head (ps:List Pt) (zs:Nat→Int) (H:Nat) (hz:∀ r,r < ps.length→zs r≠0):∀ n,n≤ps.length→Z.hdB zs (fun r=>(ps.getD r nilP).2.2.2) (fun r=>(ps.getD r nilP).2.1) H n=cl7 ((ps.take n).map ptb)
 | 0, _ => rfl
 | n + 1, h => by
  have ih:=lay_head ps zs H hz n (by omega)
  show Z.hdB _ _ _ H n++(if zs n=0 then _ else Z.prt _ _ n)=_
  rw [if_neg (hz n (by omega)),ih,List.take_succ_eq_append_getElem (by omega),List.map_append,List.map_cons,List.map_nil,cl7_app]
  congr 1
  have e:ps.getD n nilP=ps[n]:=by rw [List.getD_eq_getElem?_getD,List.getElem?_eq_getElem (by omega)];rfl
  unfold Z.prt ptb
  simp only [e]
theorem lay_hdL (ps:List Pt) (zs:Nat→Int) (hz:∀ r,r < ps.length→zs r=((ps.getD r nilP).2.1:Int)∧1≤(ps.getD r nilP).2.1):∀ n,n≤ps.length→Z.hdL zs n=ln7 ((ps.take n).map ptb)
 | 0, _ => rfl
 | n + 1, h => by
  have ih:=lay_hdL ps zs hz n (by omega)
  have h1:=hz n (by omega)
  have e:ps.getD n nilP=ps[n]:=by rw [List.getD_eq_getElem?_getD,List.getElem?_eq_getElem (by omega)];rfl
  show Z.hdL zs n+Z.inH (zs n)=_
  rw [ih,List.take_succ_eq_append_getElem (by omega),List.map_append,List.map_cons,List.map_nil,ln7_app]
  congr 1
  rw [e] at h1
  unfold Z.inH ptb
  rw [if_neg (by omega),h1.1]
  omega
theorem lay_lo (zs:Nat→Int) (F:Nat→Nat→Int) (L:Nat→Nat) (n:Nat) (hz:∀ r,r < n→zs r≠0):Z.loL zs L n=0∧Z.loB zs F L n=[]:=by
 induction n with
 | zero => exact ⟨rfl, rfl⟩
 | succ n ih =>
  have h:=ih (fun r hr=>hz r (by omega))
  show Z.loL zs L n+(if zs n=0 then L n else 0)=0∧Z.loB zs F L n++(if zs n=0 then Z.prt F L n else [])=[]
  rw [if_neg (hz n (by omega)),if_neg (hz n (by omega)),h.1,h.2]
  exact ⟨rfl,rfl⟩
def mkI (x y:Value):Sem Value:=Instr.makeSlice 131 x y
theorem mkI_eq (x y:Value):Instr.makeSlice 131 x y=mkI x y:=rfl
theorem made_vs (n:Nat):madeCells (Value.int .i64 0).cells (n*1)=vs .i64 n (fun _=>0):=by
 apply Array.ext_getElem?
 intro i
 have e:(Value.int .i64 0).cells=#[.int .i64 0]:=rfl
 rw [e]
 by_cases hi:i < n
 ·rw [vs_get _ _ _ _ hi]
  simp [madeCells,hi,Nat.mod_one]
 ·rw [Array.getElem?_eq_none (by rw [size_madeCells];omega),Array.getElem?_eq_none (by rw [vs_size];omega)]
def ixI (x i:Value):Sem Value:=Instr.indexAt 131 x i
theorem ixI_eq (x i:Value):Instr.indexAt 131 x i=ixI x i:=rfl
def ixP (x i:Value):Sem Value:=Instr.indexAt 130 x i
theorem ixP_eq (x i:Value):Instr.indexAt 130 x i=ixP x i:=rfl
end
section
open Go.RowKit
set_option linter.unusedVariables false
set_option linter.unusedSimpArgs false
attribute [local go_sem ↓] sv24_eq lv24_eq ix22_eq slr_eq bd27_eq bs22_eq sv8_eq mkI_eq ixI_eq ixP_eq
end
section
open Go.RowKit
set_option linter.unusedVariables false
set_option linter.unusedSimpArgs false
inductive Seg where
 | by (n : Nat) (f : Nat → Int)
 | nu (e : Int)
 | bo (b : Bool)
 | sl (a : Option Addr) (n c : Nat)
def Seg.len:Seg→Nat
 | .by n _ => n
 | .nu _ => 1
 | .bo _ => 1
 | .sl _ _ _ => 1
def Seg.get:Seg→Nat→Value
 | .by _ f, j => .int .u8 (f j)
 | .nu e, _ => .int .u64 e
 | .bo b, _ => .bool b
 | .sl a n c, _ => .slice a n c
def celL:List Seg→List Value
 | [] => []
 | s :: r => (List.range s.len).map s.get ++ celL r
def cel (l:List Seg):Array Value:=(celL l).toArray
def sof:List Seg→Nat→Nat
 | [], _ => 0
 | _ :: _, 0 => 0
 | s :: r, i + 1 => s.len + sof r i
def slen:List Seg→Nat
 | [] => 0
 | s :: r => s.len + slen r
theorem celL_len:∀ l,(celL l).length=slen l
 | [] => rfl
 | s :: r => by
  show ((List.range s.len).map s.get++celL r).length=s.len+slen r
  rw [List.length_append,List.length_map,List.length_range,celL_len r]
theorem cel_size (l:List Seg):(cel l).size=slen l:=by
 unfold cel
 rw [List.size_toArray,celL_len]
theorem celL_at:∀ (l:List Seg) (i j:Nat) (s:Seg),l[i]?=some s→j < s.len→(celL l)[sof l i+j]?=some (s.get j)
 | [], i, j, s, h, _ => by simp at h
 | x :: r, 0, j, s, h, hj => by
  have e:x=s:=by simpa using h
  subst e
  show ((List.range x.len).map x.get++celL r)[0+j]?=_
  rw [Nat.zero_add,List.getElem?_append_left (by simpa using hj),List.getElem?_map,List.getElem?_range hj]
  rfl
 | x :: r, i + 1, j, s, h, hj => by
  have h':r[i]?=some s:=by simpa using h
  show ((List.range x.len).map x.get++celL r)[x.len+sof r i+j]?=_
  rw [List.getElem?_append_right (by simp;omega),List.length_map,List.length_range,show x.len+sof r i+j - x.len=sof r i+j by omega]
  exact celL_at r i j s h' hj
theorem cel_at (l:List Seg) (i j:Nat) (s:Seg) (h:l[i]?=some s) (hj:j < s.len):(cel l)[sof l i+j]?=some (s.get j):=by
 unfold cel
 rw [List.getElem?_toArray]
 exact celL_at l i j s h hj
theorem celL_one:∀ l,∀ u ∈ celL l,u.oneCell'=true
 | [], u, h => by cases h
 | s :: r, u, h => by
  have h':u ∈ (List.range s.len).map s.get++celL r:=h
  rw [List.mem_append] at h'
  rcases h' with h' | h'
  ·obtain ⟨j,_,rfl⟩:=List.mem_map.1 h'
   cases s<;>rfl
  ·exact celL_one r u h'
theorem cel_one (l:List Seg):(cel l).all (·.oneCell')=true:=by
 rw [Array.all_eq_true']
 intro u hu
 exact celL_one l u (by simpa [cel] using hu)
theorem seg_bys {w:World} {g:Nat} {t:TypeId} {l:List Seg} (h:w.heap[g]?=some (.cells (cel l) t)) (i n:Nat) (f:Nat→Int) (hi:l[i]?=some (.by n f)) (o:Nat) (ho:sof l i=o) (hn:n≤9223372036854775807):Bys w (some ⟨g,o,none⟩) n n f :=
 .inr (.inr ⟨g,o,rfl,Nat.le_refl _,hn,(Array.getElem?_eq_some_iff.1 h).1,fun j hj=>by
  rw [row_cell h,←ho]
  exact cel_at l i j _ hi hj⟩)
theorem seg_nu {w:World} {g:Nat} {t:TypeId} {l:List Seg} (h:w.heap[g]?=some (.cells (cel l) t)) (i:Nat) (e:Int) (hi:l[i]?=some (.nu e)) (o:Nat) (ho:sof l i=o):w.cell? ⟨g,o,none⟩=some (.int .u64 e):=by
 rw [row_cell h,←ho]
 exact cel_at l i 0 _ hi (by show 0 < 1;omega)
theorem seg_bo {w:World} {g:Nat} {t:TypeId} {l:List Seg} (h:w.heap[g]?=some (.cells (cel l) t)) (i:Nat) (b:Bool) (hi:l[i]?=some (.bo b)) (o:Nat) (ho:sof l i=o):w.cell? ⟨g,o,none⟩=some (.bool b):=by
 rw [row_cell h,←ho]
 exact cel_at l i 0 _ hi (by show 0 < 1;omega)
theorem seg_sl {w:World} {g:Nat} {t:TypeId} {l:List Seg} (h:w.heap[g]?=some (.cells (cel l) t)) (i:Nat) (a:Option Addr) (n c:Nat) (hi:l[i]?=some (.sl a n c)) (o:Nat) (ho:sof l i=o):w.cell? ⟨g,o,none⟩=some (.slice a n c):=by
 rw [row_cell h,←ho]
 exact cel_at l i 0 _ hi (by show 0 < 1;omega)
def bsP (n:Nat) (ps:Array (Nat × Value)):Sem Value:=Instr.buildSlice 130 n ps
theorem bsP_eq (n:Nat) (ps:Array (Nat × Value)):Instr.buildSlice 130 n ps=bsP n ps:=rfl
theorem bsP_2 (W:World) (a b:Pt):(bsP 2 #[(0,ptv a),(1,ptv b)]).run Tryz.prog W=.ok (.slice (some ⟨W.heap.size,0,none⟩) 2 2) (W.alloc (.cells ([a,b].map ptv).toArray 39)):=by kernel_rfl
theorem bsP_3 (W:World) (a b c:Pt):(bsP 3 #[(0,ptv a),(1,ptv b),(2,ptv c)]).run Tryz.prog W=.ok (.slice (some ⟨W.heap.size,0,none⟩) 3 3) (W.alloc (.cells ([a,b,c].map ptv).toArray 39)):=by kernel_rfl
theorem bsP_5 (W:World) (a b c d e:Pt):(bsP 5 #[(0,ptv a),(1,ptv b),(2,ptv c),(3,ptv d),(4,ptv e)]).run Tryz.prog W=.ok (.slice (some ⟨W.heap.size,0,none⟩) 5 5) (W.alloc (.cells ([a,b,c,d,e].map ptv).toArray 39)):=by kernel_rfl
theorem bsP_8 (W:World) (a b c d e f g h:Pt):(bsP 8 #[(0,ptv a),(1,ptv b),(2,ptv c),(3,ptv d),(4,ptv e),(5,ptv f),(6,ptv g),(7,ptv h)]).run Tryz.prog W=.ok (.slice (some ⟨W.heap.size,0,none⟩) 8 8) (W.alloc (.cells ([a,b,c,d,e,f,g,h].map ptv).toArray 39)):=by kernel_rfl
theorem own_at {w:World} {B:Nat} {v:Value} {n:Nat} {f:Nat→Int} (h:w.ownsRow B 5 1 v n (bl f n)):∃ a cap,v=.slice a n cap∧Bys w a n cap f:=by
 obtain ⟨a,cap,e,hb,_⟩:=own_bys h
 exact ⟨a,cap,e,hb⟩
end
section
open Go.RowKit
set_option linter.unusedVariables false
set_option linter.unusedSimpArgs false
def bbB (b:Bool) (_:Nat):Int:=if b then 1 else 0
structure VFork where
 f0:Nat→Int
 f1:Nat→Int
 f2:Int
def sFork (x:VFork):List Seg:=[.by 4 x.f0,.by 4 x.f1,.nu x.f2]
def OkFork (x:VFork):Prop:=(∀ j,j < 4→0≤x.f0 j∧x.f0 j < 256)∧(∀ j,j < 4→0≤x.f1 j∧x.f1 j < 256)∧(0≤x.f2∧x.f2 < 18446744073709551616)
def eFork (x:VFork):List (Nat × (Nat→Int)):=[(4,x.f0),(4,x.f1),(8,nmB x.f2)]
structure VCheckpoint where
 f0:Int
 f1:Nat→Int
def sCheckpoint (x:VCheckpoint):List Seg:=[.nu x.f0,.by 32 x.f1]
def OkCheckpoint (x:VCheckpoint):Prop:=(0≤x.f0∧x.f0 < 18446744073709551616)∧(∀ j,j < 32→0≤x.f1 j∧x.f1 j < 256)
def eCheckpoint (x:VCheckpoint):List (Nat × (Nat→Int)):=[(8,nmB x.f0),(32,x.f1)]
structure VValidator where
 f0:Nat→Int
 f1:Nat→Int
 f2:Int
 f3:Bool
 f4:Int
 f5:Int
 f6:Int
 f7:Int
def sValidator (x:VValidator):List Seg:=[.by 48 x.f0,.by 32 x.f1,.nu x.f2,.bo x.f3,.nu x.f4,.nu x.f5,.nu x.f6,.nu x.f7]
def OkValidator (x:VValidator):Prop:=(∀ j,j < 48→0≤x.f0 j∧x.f0 j < 256)∧(∀ j,j < 32→0≤x.f1 j∧x.f1 j < 256)∧(0≤x.f2∧x.f2 < 18446744073709551616)∧True∧(0≤x.f4∧x.f4 < 18446744073709551616)∧(0≤x.f5∧x.f5 < 18446744073709551616)∧(0≤x.f6∧x.f6 < 18446744073709551616)∧(0≤x.f7∧x.f7 < 18446744073709551616)
def eValidator (x:VValidator):List (Nat × (Nat→Int)):=[(48,x.f0),(32,x.f1),(8,nmB x.f2),(1,bbB x.f3),(8,nmB x.f4),(8,nmB x.f5),(8,nmB x.f6),(8,nmB x.f7)]
structure VEth1 where
 f0:Nat→Int
 f1:Int
 f2:Nat→Int
def sEth1 (x:VEth1):List Seg:=[.by 32 x.f0,.nu x.f1,.by 32 x.f2]
def OkEth1 (x:VEth1):Prop:=(∀ j,j < 32→0≤x.f0 j∧x.f0 j < 256)∧(0≤x.f1∧x.f1 < 18446744073709551616)∧(∀ j,j < 32→0≤x.f2 j∧x.f2 j < 256)
def eEth1 (x:VEth1):List (Nat × (Nat→Int)):=[(32,x.f0),(8,nmB x.f1),(32,x.f2)]
structure VHeader where
 f0:Int
 f1:Int
 f2:Nat→Int
 f3:Nat→Int
 f4:Nat→Int
def sHeader (x:VHeader):List Seg:=[.nu x.f0,.nu x.f1,.by 32 x.f2,.by 32 x.f3,.by 32 x.f4]
def OkHeader (x:VHeader):Prop:=(0≤x.f0∧x.f0 < 18446744073709551616)∧(0≤x.f1∧x.f1 < 18446744073709551616)∧(∀ j,j < 32→0≤x.f2 j∧x.f2 j < 256)∧(∀ j,j < 32→0≤x.f3 j∧x.f3 j < 256)∧(∀ j,j < 32→0≤x.f4 j∧x.f4 j < 256)
def eHeader (x:VHeader):List (Nat × (Nat→Int)):=[(8,nmB x.f0),(8,nmB x.f1),(32,x.f2),(32,x.f3),(32,x.f4)]
structure VExit where
 f0:Int
 f1:Int
def sExit (x:VExit):List Seg:=[.nu x.f0,.nu x.f1]
def OkExit (x:VExit):Prop:=(0≤x.f0∧x.f0 < 18446744073709551616)∧(0≤x.f1∧x.f1 < 18446744073709551616)
structure VDepositData where
 f0:Nat→Int
 f1:Nat→Int
 f2:Int
 f3:Nat→Int
def sDepositData (x:VDepositData):List Seg:=[.by 48 x.f0,.by 32 x.f1,.nu x.f2,.by 96 x.f3]
def OkDepositData (x:VDepositData):Prop:=(∀ j,j < 48→0≤x.f0 j∧x.f0 j < 256)∧(∀ j,j < 32→0≤x.f1 j∧x.f1 j < 256)∧(0≤x.f2∧x.f2 < 18446744073709551616)∧(∀ j,j < 96→0≤x.f3 j∧x.f3 j < 256)
structure VSignedExit where
 f0:VExit
 f1:Nat→Int
def sSignedExit (x:VSignedExit):List Seg:=sExit x.f0++[.by 96 x.f1]
def OkSignedExit (x:VSignedExit):Prop:=OkExit x.f0∧(∀ j,j < 96→0≤x.f1 j∧x.f1 j < 256)
end
end Go.Proofs.YtfgmddnfhphdeaaGreatDoor
