/- A part. -/
import Derived.Test.YtdjplhibmomajaaGreatDoorMaB
import Derived.Test.YtdjplhibmomajaaGreatDoorHaG
import Derived.Test.YtdjplhibmomajaaGreatDoorMaA
import Derived.Laws.MakeOwn
import Derived.Maps.AppendAt
namespace Go.Proofs.YtdjplhibmomajaaGreatDoor
open Go.RowKit
set_option linter.unusedVariables false
set_option linter.unusedSimpArgs false
section
open Go.RowKit
set_option linter.unusedVariables false
set_option linter.unusedSimpArgs false
def aPZ (x:Value) (lo hi:Option Value):Sem Value:=Instr.sliceAt 39 x lo hi none
theorem aCe (x:Value) (lo hi:Option Value):Instr.sliceAt 39 x lo hi none=aPZ x lo hi:=rfl
theorem aGg (W : World) (ao : Option Addr) (len cap lo hi : Nat) (l h : Option Value) (hl : l = some (.int .i64 lo) ∨ l = none ∧ lo = 0) (hh : h = some (.int .i64 hi) ∨ h = none ∧ hi = len) (h1 : lo ≤ hi) (h2 : hi ≤ len) (h3 : len ≤ cap) :
    (aPZ (.slice ao len cap) l h).run Tryz.prog W=.ok (.slice (if cap=lo then ao else ao.map (·.add lo)) (hi - lo) (cap - lo)) W:=by
 obtain ⟨i,hi8,_,hz,_⟩:=info_parts aDb
 have b1:∀ (k n:Nat) (c:BoundsCode),k≤n→(Instr.sliceBound (.int .i64 (k:Int)) n c).run Tryz.prog W=.ok k W:=by
  intro k n c hk
  have h0:(k:Int)≤(n:Int):=by omega
  simp [Instr.sliceBound,asIntOf,h0]
 have c1:=fun c=>b1 lo hi c h1
 have c2:=fun c=>b1 hi cap c (by omega)
 unfold aPZ Instr.sliceAt
 rcases hl with rfl | ⟨rfl,rfl⟩<;>rcases hh with rfl | ⟨rfl,rfl⟩ <;>
  simp [run_underlying Tryz.underlying39,Instr.slice,Instr.sliceBounds,c1,c2,sizeOf,typeInfo,hi8,hz]
def aTD (x y:Value):Sem Value:=Instr.makeSlice 32 x y
theorem aCr (x y:Value):Instr.makeSlice 32 x y=aTD x y:=rfl
theorem aN3 (n:Nat):madeCells (vs .u8 32 fun _=>0) (n*32)=vs .u8 (32*n) (fun _=>0):=by
 apply Array.ext_getElem?
 intro j
 by_cases hj:j < 32*n
 ·rw [aBB _ _ _ _ hj]
  have hs:(vs .u8 32 fun _=>0).size=32:=aAp _ _ _
  have hj2:j < n*32:=by omega
  simp [madeCells,hj2]
  have h3:=aBB .u8 32 (fun _=>0) (j % (vs .u8 32 fun _=>0).size) (by rw [hs];omega)
  rw [getElem!_def,h3]
 ·rw [Array.getElem?_eq_none (by rw [size_madeCells];omega),Array.getElem?_eq_none (by rw [aAp];omega)]
theorem aN5 (W:World) (n:Nat) (hn:32*n≤281474976710656):(aTD (.int .i64 n) (.int .i64 n)).run Tryz.prog W=.ok (.slice (some ⟨W.heap.size,0,none⟩) n n) (W.alloc (.cells (vs .u8 (32*n) (fun _=>0)) 24)):=by
 obtain ⟨i,hi,hz0,hz1,hz2⟩:=aMN
 have h:=run_make (P:=Tryz.prog) W 32 24 i _ Tryz.underlying32 hi hz0 .i64 .i64 n n (by omega) (Int.le_refl _) (by rw [hz2];omega) (by omega)
 rw [hz1,Int.toNat_natCast] at h
 unfold aTD
 rw [h]
 have e:(Value.agg (vs .u8 32 fun _=>0)).cells=vs .u8 32 fun _=>0:=rfl
 rw [e,aN3]
theorem aFQ (W : World) (g N : Nat) (f z : Nat → Int) (p c : Nat) (x : Addr) (len cap dl dcap : Nat) (t : TypeId) (hg : W.heap[g]? = some (.cells (vs .u8 N f) t)) (hp : p + c ≤ N) (hc : c = Nat.min len dl) (hx : ∀ j, j < c → W.cell? (x.add j) = some (.int .u8 (z j))) :
    ∀ ty,(Builtin.copy_ #[39,39] ty #[.slice (some ⟨g,p,none⟩) dl dcap,.slice (some x) len cap]).run Tryz.prog W=.ok (.int .i64 c) (W.setRow g (vs .u8 N (over f z p c))):=by
 intro ty
 have hrun:=run_copy_row (P:=Tryz.prog) W 39 39 ty 5 g p dl dcap x len cap (vs .u8 N f) t (bl z c) Tryz.underlying39 (by kernel_rfl) hg (by rw [aAV];exact hc)
  (fun j v hj=>by
   obtain ⟨h1,rfl⟩:=aBD z c j v hj
   exact hx j h1) (by rw [aAV,aAp];exact hp) (aC0 z c)
 rw [hrun,aAV]
 have e:((vs .u8 N f).toList.take p++bl z c++(vs .u8 N f).toList.drop (p+c)).toArray=vs .u8 N (over f z p c):=by
  apply Array.ext_getElem?
  intro j
  rw [List.getElem?_toArray,List.append_assoc]
  have hl1:((vs .u8 N f).toList.take p).length=p:=by rw [List.length_take,Array.length_toList,aAp];omega
  by_cases h1:j < p
  ·rw [List.getElem?_append_left (by omega),List.getElem?_take_of_lt h1,Array.getElem?_toList,aBB _ _ _ _ (by omega),aBB _ _ _ _ (by omega)]
   unfold over
   rw [if_neg (by omega)]
  ·rw [List.getElem?_append_right (by omega),hl1]
   by_cases h2:j < p+c
   ·rw [List.getElem?_append_left (by rw [aAV];omega),aE5 _ _ _ (by omega),aBB _ _ _ _ (by omega)]
    unfold over
    rw [if_pos (by omega)]
   ·rw [List.getElem?_append_right (by rw [aAV];omega),aAV,List.getElem?_drop,Array.getElem?_toList,show p+c+(j - p - c)=j by omega]
    by_cases h3:j < N
    ·rw [aBB _ _ _ _ h3,aBB _ _ _ _ h3]
     unfold over
     rw [if_neg (by omega)]
    ·rw [aBA _ _ _ _ (by omega),aBA _ _ _ _ (by omega)]
 rw [e]
 rfl
def pkU (m:Nat→Int) (len k:Nat) (q:Nat):Int:=if q < 32*k∧q < len then m q else 0
theorem aII (m:Nat→Int) (len k:Nat) (hk:32*k < len) (q:Nat):over (pkU m len k) (fun j=>m (32*k+j)) (32*k) (Nat.min (len - 32*k) 32) q=pkU m len (k+1) q:=by
 have h32:Nat.min (len - 32*k) 32=if len - 32*k≤32 then len - 32*k else 32:=by
  by_cases h:len - 32*k≤32
  ·rw [if_pos h];exact Nat.min_eq_left h
  ·rw [if_neg h];exact Nat.min_eq_right (by omega)
 generalize Nat.min (len - 32*k) 32=c at h32
 unfold over pkU
 by_cases h1:32*k≤q∧q < 32*k+c
 ·rw [if_pos h1,if_pos (by split at h32<;>omega)]
  show m (32*k+(q - 32*k))=m q
  rw [show 32*k+(q - 32*k)=q by omega]
 ·rw [if_neg h1]
  by_cases h2:q < 32*k∧q < len
  ·rw [if_pos h2,if_pos (by omega)]
  ·rw [if_neg h2,if_neg (by split at h32<;>omega)]
def pk (m:Nat→Int) (len:Nat) (q:Nat):Int:=if q < len then m q else 0
theorem aE1 {m:Nat→Int} {len:Nat} (h:∀ q,q < len→0≤m q∧m q < 256) (n:Nat):ByB (pk m len) n:=fun q _=>by
 unfold pk
 by_cases hq:q < len
 ·rw [if_pos hq];exact h q hq
 ·rw [if_neg hq];omega
attribute [local go_sem ↓] aAu aAt aAF aB3 aCj aCm aCh aAQ aAL aCe aCr
set_option maxRecDepth 20000 in
set_option maxHeartbeats 2000000 in
theorem aIG (a : Option Addr) (len cap : Nat) (m : Nat → Int) (w : World) (hb : Bys w a len cap m) (hl : len ≤ 140737488355328) :
    Calls Tryz.prog 109 #[.slice a len cap] w fun e w'=>e=.returned (.slice (some ⟨w.heap.size,0,none⟩) ((len+31) / 32) ((len+31) / 32))∧Below w.heap.size w w'∧w'.heap.size=w.heap.size+1∧w'.heap[w.heap.size]?=some (.cells (vs .u8 (32*((len+31) / 32)) (pk m len)) 24):=by
 obtain ⟨cnt,ec⟩:∃ c,c=(len+31) / 32:=⟨_,rfl⟩
 rw [←ec]
 obtain ⟨q0,eq0⟩:∃ c,c=len / 32:=⟨_,rfl⟩
 have t1:(len:Int).tdiv 32=(q0:Int):=by rw [Int.tdiv_eq_ediv_of_nonneg (by omega)];omega
 have t2:(len:Int) / 32=(q0:Int):=by omega
 obtain ⟨r0,er0⟩:∃ c,c=len % 32:=⟨_,rfl⟩
 have t3:(len:Int).tmod 32=(r0:Int):=by rw [Int.tmod_eq_emod_of_nonneg (by omega)];omega
 have t4:(len:Int) % 32=(r0:Int):=by omega
 have mk:=fun W=>aN5 W cnt (by omega)
 have HBY:=hid hb
 have hcap:len≤cap∧(0 < len→∃ b off,a=some ⟨b,off,none⟩∧b < w.heap.size∧∀ j,j < len→w.cell? ⟨b,off+j,none⟩=some (.int .u8 (m j))):=by
  rcases hb with ⟨_,h1,h2⟩ | ⟨x,_,h⟩ | ⟨b,off,h1,h2,h3,h4,h5⟩
  ·exact ⟨by omega,fun h=>by omega⟩
  ·exact ⟨by omega,fun h0=>by omega⟩
  ·exact ⟨h2,fun _=>⟨b,off,h1,h4,h5⟩⟩
 have HCP0:=hid hcap
 have hcc:cnt*32≤140737488355360:=by omega
 have HE:=hid (And.intro ec (And.intro eq0 er0))
 have tail:(((r0:Int) == 0)=true∧(q0:Int)=(cnt:Int))∨(((r0:Int) == 0)=false∧(q0:Int)+1=(cnt:Int)):=by
  by_cases h:r0=0
  ·exact .inl ⟨by simp;omega,by omega⟩
  ·exact .inr ⟨by simp;omega,by omega⟩
 clear hb hcap ec eq0 er0
 rcases tail with ⟨t5,t6⟩ | ⟨t5,t6⟩
 ·go_enter Tryz.func109,Tryz.ntmps109
  go_wp2
  go_loopw [19] (fun i wr=>∃ k:Nat,k≤cnt∧i=.int .i64 k∧Below w.heap.size w wr∧wr.heap.size=w.heap.size+1∧wr.heap[w.heap.size]?=some (.cells (vs .u8 (32*cnt) (pkU m len k)) 24)) (fun i _=>cnt - (intOf i).toNat)
  case atStart =>
   refine ⟨0,by omega,rfl,by go_grown,by simp,(aA2 rfl).trans (congrArg (fun c=>some (Obj.cells c 24)) (aAO fun q _=>?_))⟩
   unfold pkU
   rw [if_neg (by omega)]
  case round =>
   clear mk t1 t2 t3 t4 t5 t6
   obtain ⟨k,hk,rfl,hB,hz,r⟩:=hrel
   by_cases hlt:k < cnt
   ·have hkl:32*k < len:=by have:=HE.out;omega
    obtain ⟨hcp,hbb⟩:=HCP0.out
    obtain ⟨b,off,rfl,hbw,hc⟩:=hbb (by omega)
    have b3:decide (k < cnt)=true:=by simp;omega
    obtain ⟨p,ep⟩:∃ p:Nat,p=32*k:=⟨_,rfl⟩
    have q1:(k:Int)*32=(p:Int):=by omega
    have q2:IntKind.i64.wrap (p:Int)=(p:Int):=by rw [IntKind.wrap_i64];omega
    have ixf:=fun W=>aDI W w.heap.size 0 cnt cnt k hlt
    rw [Nat.zero_add,←ep] at ixf
    have sr:=fun W=>aGg W (some ⟨b,off,none⟩) len cap p len (some (.int .i64 p)) none (.inl rfl) (.inr ⟨rfl,rfl⟩) (by omega) (Nat.le_refl _) hcp
    rw [if_neg (by omega),Option.map_some,Addr.add_mid] at sr
    obtain ⟨c,ecc⟩:∃ c,c=Nat.min (len - p) 32:=⟨_,rfl⟩
    have hc1:c≤len - p:=by rw [ecc];exact Nat.min_le_left _ _
    have hc2:c≤32:=by rw [ecc];exact Nat.min_le_right _ _
    have hcopy:=aFQ wr.drew w.heap.size (32*cnt) (pkU m len k) (fun j=>m (32*k+j)) p c ⟨b,off+p,none⟩ (len - p) (cap - p) 32 32 24 r (by omega) ecc
     (fun j hj=>by
      rw [Addr.add_mid,Nat.add_assoc,←ep]
      exact (aAk hB hbw).trans (hc _ (by omega)))
    have HCP:=hid hcopy
    have HB:=hid hB
    have R:=hid r
    have EP:=hid (And.intro ep ecc)
    have HZ:=hid hz
    clear hcopy hB r ep hz hc ecc
    go_upto_region 8 with fail
    refine wp_region_noPanic ?_
    refine wp_region_held_drew (S:=fun _=>True) (by kernel_rfl) (trivial) (fun hHeld=>?_)
    refine tk 0 (v:=?v1) ?y1 hHeld ?r1
    case y1=>intro w hSw;go_simp;try with_reducible rfl
    refine tk 1 (v:=?v2) ?y2 hHeld ?r2
    case y2=>intro w hSw;go_simp;try with_reducible rfl
    refine tk 2 (v:=?v3) ?y3 hHeld ?r3
    case y3=>intro w hSw;go_simp;try with_reducible rfl
    refine tk 3 (v:=?v4) ?y4 hHeld ?r4
    case y4=>intro w hSw;go_simp;try with_reducible rfl
    refine tk 4 (v:=?v5) ?y5 hHeld ?r5
    case y5=>intro w hSw;go_simp;try with_reducible rfl
    refine tk 5 (v:=?v6) ?y6 hHeld ?r6
    case y6=>intro w hSw;go_simp;try with_reducible rfl
    refine tk 6 (v:=?v7) ?y7 hHeld ?r7
    case y7=>intro w hSw;go_simp;try with_reducible rfl
    refine tk 7 (v:=?v8) ?y8 hHeld ?r8
    case y8=>intro w hSw;go_simp;try with_reducible rfl
    try simp only [Act.put,z_1,z_2,z_3,z_4,z_5,z_6,z_7]
    refine wpAnyH_ready (rs:=[8]) (by kernel_rfl) (by simp) ?_
    refine AllReadyH.cons rfl (fun K hK=>?_) AllReadyH.nil
    refine aCA (by rfl) _ _ 39 39 (by rfl) _ _ _ _ (by rfl) (by rfl) HCP.out ?_
    refine hK.out _ _ trivial (fun hHeld=>?_)
    clear hK K
    try simp only [Act.put,z_1,z_2,z_3,z_4,z_5,z_6,z_7]
    refine wpAnyH_done (by kernel_rfl) ?_ _
    refine NoPanic.normal ?_
    go_wp2
    go_roundw
    case rel =>
     refine ⟨k+1,by omega,by go_num,aA6 HB.out.drew (Nat.le_refl _) _,by simpa using HZ.out,(aA4 (w:=wr.drew) R.out).trans (congrArg (fun c=>some (Obj.cells c 24)) (aAO fun q _=>?_))⟩
     rw [EP.out.2,EP.out.1]
     exact aII m len k hkl q
    case measure=>simp [intOf];omega
   ·have ek:k=cnt:=by omega
    subst ek
    have b3:decide (k < k)=false:=by simp
    go_wp2
    go_ret
    refine ⟨rfl,hB,hz,r.trans (congrArg (fun c=>some (Obj.cells c 24)) (aAO fun q hq=>?_))⟩
    unfold pkU pk
    by_cases h:q < len
    ·rw [if_pos ⟨hq,h⟩,if_pos h]
    ·rw [if_neg (fun x=>h x.2),if_neg h]
 ·go_enter Tryz.func109,Tryz.ntmps109
  go_wp2
  go_loopw [19] (fun i wr=>∃ k:Nat,k≤cnt∧i=.int .i64 k∧Below w.heap.size w wr∧wr.heap.size=w.heap.size+1∧wr.heap[w.heap.size]?=some (.cells (vs .u8 (32*cnt) (pkU m len k)) 24)) (fun i _=>cnt - (intOf i).toNat)
  case atStart =>
   refine ⟨0,by omega,rfl,by go_grown,by simp,(aA2 rfl).trans (congrArg (fun c=>some (Obj.cells c 24)) (aAO fun q _=>?_))⟩
   unfold pkU
   rw [if_neg (by omega)]
  case round =>
   clear mk t1 t2 t3 t4 t5 t6
   obtain ⟨k,hk,rfl,hB,hz,r⟩:=hrel
   by_cases hlt:k < cnt
   ·have hkl:32*k < len:=by have:=HE.out;omega
    obtain ⟨hcp,hbb⟩:=HCP0.out
    obtain ⟨b,off,rfl,hbw,hc⟩:=hbb (by omega)
    have b3:decide (k < cnt)=true:=by simp;omega
    obtain ⟨p,ep⟩:∃ p:Nat,p=32*k:=⟨_,rfl⟩
    have q1:(k:Int)*32=(p:Int):=by omega
    have q2:IntKind.i64.wrap (p:Int)=(p:Int):=by rw [IntKind.wrap_i64];omega
    have ixf:=fun W=>aDI W w.heap.size 0 cnt cnt k hlt
    rw [Nat.zero_add,←ep] at ixf
    have sr:=fun W=>aGg W (some ⟨b,off,none⟩) len cap p len (some (.int .i64 p)) none (.inl rfl) (.inr ⟨rfl,rfl⟩) (by omega) (Nat.le_refl _) hcp
    rw [if_neg (by omega),Option.map_some,Addr.add_mid] at sr
    obtain ⟨c,ecc⟩:∃ c,c=Nat.min (len - p) 32:=⟨_,rfl⟩
    have hc1:c≤len - p:=by rw [ecc];exact Nat.min_le_left _ _
    have hc2:c≤32:=by rw [ecc];exact Nat.min_le_right _ _
    have hcopy:=aFQ wr.drew w.heap.size (32*cnt) (pkU m len k) (fun j=>m (32*k+j)) p c ⟨b,off+p,none⟩ (len - p) (cap - p) 32 32 24 r (by omega) ecc
     (fun j hj=>by
      rw [Addr.add_mid,Nat.add_assoc,←ep]
      exact (aAk hB hbw).trans (hc _ (by omega)))
    have HCP:=hid hcopy
    have HB:=hid hB
    have R:=hid r
    have EP:=hid (And.intro ep ecc)
    have HZ:=hid hz
    clear hcopy hB r ep hz hc ecc
    go_upto_region 8 with fail
    refine wp_region_noPanic ?_
    refine wp_region_held_drew (S:=fun _=>True) (by kernel_rfl) (trivial) (fun hHeld=>?_)
    refine tk 0 (v:=?v9) ?y9 hHeld ?r9
    case y9=>intro w hSw;go_simp;try with_reducible rfl
    refine tk 1 (v:=?v10) ?y10 hHeld ?r10
    case y10=>intro w hSw;go_simp;try with_reducible rfl
    refine tk 2 (v:=?v11) ?y11 hHeld ?r11
    case y11=>intro w hSw;go_simp;try with_reducible rfl
    refine tk 3 (v:=?v12) ?y12 hHeld ?r12
    case y12=>intro w hSw;go_simp;try with_reducible rfl
    refine tk 4 (v:=?v13) ?y13 hHeld ?r13
    case y13=>intro w hSw;go_simp;try with_reducible rfl
    refine tk 5 (v:=?v14) ?y14 hHeld ?r14
    case y14=>intro w hSw;go_simp;try with_reducible rfl
    refine tk 6 (v:=?v15) ?y15 hHeld ?r15
    case y15=>intro w hSw;go_simp;try with_reducible rfl
    refine tk 7 (v:=?v16) ?y16 hHeld ?r16
    case y16=>intro w hSw;go_simp;try with_reducible rfl
    try simp only [Act.put,z_1,z_2,z_3,z_4,z_5,z_6,z_7]
    refine wpAnyH_ready (rs:=[8]) (by kernel_rfl) (by simp) ?_
    refine AllReadyH.cons rfl (fun K hK=>?_) AllReadyH.nil
    refine aCA (by rfl) _ _ 39 39 (by rfl) _ _ _ _ (by rfl) (by rfl) HCP.out ?_
    refine hK.out _ _ trivial (fun hHeld=>?_)
    clear hK K
    try simp only [Act.put,z_1,z_2,z_3,z_4,z_5,z_6,z_7]
    refine wpAnyH_done (by kernel_rfl) ?_ _
    refine NoPanic.normal ?_
    go_wp2
    go_roundw
    case rel =>
     refine ⟨k+1,by omega,by go_num,aA6 HB.out.drew (Nat.le_refl _) _,by simpa using HZ.out,(aA4 (w:=wr.drew) R.out).trans (congrArg (fun c=>some (Obj.cells c 24)) (aAO fun q _=>?_))⟩
     rw [EP.out.2,EP.out.1]
     exact aII m len k hkl q
    case measure=>simp [intOf];omega
   ·have ek:k=cnt:=by omega
    subst ek
    have b3:decide (k < k)=false:=by simp
    go_wp2
    go_ret
    refine ⟨rfl,hB,hz,r.trans (congrArg (fun c=>some (Obj.cells c 24)) (aAO fun q hq=>?_))⟩
    unfold pkU pk
    by_cases h:q < len
    ·rw [if_pos ⟨hq,h⟩,if_pos h]
    ·rw [if_neg (fun x=>h x.2),if_neg h]
end
section
open Go.RowKit
set_option linter.unusedVariables false
set_option linter.unusedSimpArgs false
attribute [local go_sem ↓] aAu aAt aAF aB3 aCj aCm aCh aAQ aAL aCe aCr
def nmB (n:Int) (j:Nat):Int:=n / 2 ^ (8*j) % 256
def eqR (c d:Nat→Int):Bool:=(List.range 32).all fun j=>c j == d j
theorem aMH (c:Nat→Int):eqR c c=true:=by simp [eqR]
theorem aKk {c c' d d':Nat→Int} (h:∀ j,j < 32→c j=c' j) (h':∀ j,j < 32→d j=d' j):eqR c d=eqR c' d':=by
 unfold eqR
 rw [Bool.eq_iff_iff]
 simp only [List.all_eq_true,List.mem_range,beq_iff_eq]
 constructor
 ·intro hh j hj;rw [←h j hj,←h' j hj];exact hh j hj
 ·intro hh j hj;rw [h j hj,h' j hj];exact hh j hj
theorem aRn (w:World) (c d:Nat→Int):(Op.equalIn 10000 24 (.agg (vs .u8 32 c)) (.agg (vs .u8 32 d))).run Tryz.prog w=.ok (eqR c d) w:=by
 have hi:∃ i,Tryz.prog.info? 5=some i:=Option.isSome_iff_exists.1 (by kernel_rfl)
 obtain ⟨i,hi⟩:=hi
 have hc:Tryz.prog.cellsOf 5=1:=by kernel_rfl
 rw [run_equalIn_array w 9999 _ _ Tryz.underlying24 hi,hc]
 exact aDm (P:=Tryz.prog) 9998 5 .u8 .u8 Tryz.underlying5 aQW (vs .u8 32 c) (vs .u8 32 d) c d w (List.range 32) (by
  intro j hj
  have hj:=List.mem_range.1 hj
  exact ⟨aBB _ _ _ _ hj,aBB _ _ _ _ hj⟩)
end
section
open Go.RowKit
set_option linter.unusedVariables false
set_option linter.unusedSimpArgs false
attribute [local go_sem ↓] aAu aAt aAF aB3 aCj aCm aCh aAQ aAL aCe aCr
theorem aEv {w:World} {g n:Nat} {f:Nat→Int} {t:TypeId} (h:w.heap[g]?=some (.cells (vs .u8 (32*n) f) t)):Rts w (some ⟨g,0,none⟩) n n f :=
 .inr (.inr ⟨g,0,rfl,Nat.le_refl _,(Array.getElem?_eq_some_iff.1 h).1,fun j hj=>by rw [Nat.zero_add];exact aA8 h j hj⟩)
end
section
open Go.RowKit
set_option linter.unusedVariables false
set_option linter.unusedSimpArgs false
def eqo (x y:Value):Sem Value:=binOp .eql 24 x y
theorem aE7 (x y:Value):binOp .eql 24 x y=eqo x y:=rfl
theorem aPe (w:World) (c d:Nat→Int):(eqo (.agg (vs .u8 32 c)) (.agg (vs .u8 32 d))).run Tryz.prog w=.ok (.bool (eqR c d)) w:=by
 have h:=aRn w c d
 unfold eqo
 have h2:(Op.equalIn Op.maxDepth 24 (.agg (vs .u8 32 c)) (.agg (vs .u8 32 d))).run Tryz.prog w=.ok (eqR c d) w:=h
 simp [binOp,Op.equal,h2]
theorem aDL {ops : Array Oper} {S : World → Prop} {op : Oper} {a : Act} (hw : Region.wanted op (yielded ops a.tmps) = true) (x y : Operand) (rt : TypeId) (ho : op.op = .binOp .eql 24 x y rt) (c d : Nat → Int)
    (hx:a.eval x=.agg (vs .u8 32 c)) (hy:a.eval y=.agg (vs .u8 32 d)):YieldsIf Tryz.prog ops S op (.bool (eqR c d)) a :=
 .inl ⟨hw,fun w _=>by
  have h:=aPe w c d
  unfold eqo at h
  unfold execOp
  simp [ho,hx,hy,eqGuard,h]⟩
attribute [local go_sem ↓] aAu aAt aAF aB3 aCj aCm aCh aAQ aAL aCe aCr aE7
theorem aKT {w:World} {B:Nat} {v:Value} {n:Nat} {m:Nat→Int} (h:w.ownsRow B 5 1 v n (bl m n)):∃ a cap,v=.slice a n cap∧Bys w a n cap m∧(a=none→n=0):=by
 rcases h with ⟨h0,⟨rfl,rfl⟩ | ⟨g,cap,cur,rfl,h1,h2,h3,h4,h5,h6⟩⟩
 ·exact ⟨none,0,rfl,.inl ⟨rfl,rfl,rfl⟩,fun _=>rfl⟩
 ·have hg:=(Array.getElem?_eq_some_iff.1 h2).1
  unfold maxLen at h4
  refine ⟨_,cap,rfl,.inr (.inr ⟨g,0,rfl,h3,by omega,hg,fun j hj=>?_⟩),fun h=>by cases h⟩
  have h7:(cur.toList.take (n*1))[j]?=(bl m n)[j]?:=by rw [h6]
  rw [List.getElem?_take_of_lt (by omega),aE5 _ _ _ hj,Array.getElem?_toList] at h7
  rw [Nat.zero_add,aAs h2,h7]
end
section
open Go.RowKit
set_option linter.unusedVariables false
set_option linter.unusedSimpArgs false
attribute [local go_sem ↓] aAu aAt aAF aB3 aCj aCm aCh aAQ aAL aCe aCr aE7
def Rc (w:World):Prop:=Tab w 1 64 KW
theorem Rc.below {w w':World} (h:Rc w) (hb:Below w.heap.size w w'):Rc w':=Tab.below h hb
theorem aGc (a b : Nat → Int) (w : World) (hC : Rc w) (ha : ∀ j, j < 32 → 0 ≤ a j ∧ a j < 256) (hb : ∀ j, j < 32 → 0 ≤ b j ∧ b j < 256) :
    Calls Tryz.prog 54 #[.agg (vs .u8 32 a),.agg (vs .u8 32 b)] w fun e w'=>e=.returned (.agg (vs .u8 32 (tw a b)))∧Below w.heap.size w w' :=
 aJq a b w hC ha hb
end
section
open Go.RowKit
set_option linter.unusedVariables false
set_option linter.unusedSimpArgs false
def apR (ty:TypeId) (x y:Value):Sem Value:=Builtin.append_ #[32,32] ty #[x,y]
theorem aGu {P : Program} {o : Oper} {a : Act} {w : World} {K : Act → World → Prop} {Q : Exit → Act → World → Prop} (s x : Operand)
    (ho:o.op=.call { callee:=.builtin .append,args:=#[s,x],argTypes:=#[32,32] }) (ws wx v:Value) (w':World) (hs:a.eval s=ws) (hx:a.eval x=wx)
    (hrun:(apR o.type ws wx).run P w=.ok v w') (h:K (a.put o.dst v) w'):Oper.wp P o a w K Q:=by
 unfold apR at hrun
 unfold Oper.wp execOp
 simp only [ho,resolve,invoke,builtin,Sem.run_bind,Sem.run_pure,Result.andThen_ok,List.map_toArray,List.map_cons,List.map_nil,hs,hx,hrun]
 exact h
attribute [local go_sem ↓] aAu aAt aAF aB3 aCj aCm aCh aAQ aCe aCr aE7
end
section
open Go.RowKit
set_option linter.unusedVariables false
set_option linter.unusedSimpArgs false
theorem aJK {ops : Array Oper} {S : World → Prop} {op : Oper} {a : Act} (hw : Region.wanted op (yielded ops a.tmps) = true) (x y : Operand) (rt : TypeId) (ho : op.op = .binOp .neq 24 x y rt) (c d : Nat → Int)
    (hx:a.eval x=.agg (vs .u8 32 c)) (hy:a.eval y=.agg (vs .u8 32 d)):YieldsIf Tryz.prog ops S op (.bool (!eqR c d)) a :=
 .inl ⟨hw,fun w _=>by
  have h:(Op.equalIn Op.maxDepth 24 (.agg (vs .u8 32 c)) (.agg (vs .u8 32 d))).run Tryz.prog w=.ok (eqR c d) w:=aRn w c d
  unfold execOp
  simp [ho,hx,hy,eqGuard,binOp,Op.equal,h]⟩
attribute [local go_sem ↓] aAu aAt aAF aB3 aCj aCm aCh aAQ aAL aCe aCr aE7
set_option maxRecDepth 20000 in
set_option maxHeartbeats 1000000 in
theorem aJu (a b : Option Addr) (len cap cap' : Nat) (f g : Nat → Int) (w : World) (h1 : Rts w a len cap f) (h2 : Rts w b len cap' g) (hfg : ∀ q, q < 32 * len → f q = g q) (hl : len ≤ 140737488355328) :
    Calls Tryz.prog 30 #[.slice a len cap,.slice b len cap'] w fun e w'=>e=.returned (.bool true)∧Below w.heap.size w w':=by
 have H1:=hid h1
 have H2:=hid h2
 have HFG:=hid hfg
 clear h1 h2 hfg
 go_enter Tryz.func30,Tryz.ntmps30
 go_wp2
 go_loopw [5] (fun i wr=>∃ k:Nat,k≤len∧i=.int .i64 k∧Below w.heap.size w wr) (fun i _=>len - (intOf i).toNat)
 case atStart=>exact ⟨0,by omega,rfl,Below.refl _ _⟩
 case round =>
  obtain ⟨k,hk,rfl,hB⟩:=hrel
  by_cases hlt:k < len
  ·have b3:decide (k < len)=true:=by simp;omega
   obtain ⟨b1,o1,hb1,hx1,hc1⟩:=H1.out.at k hlt
   obtain ⟨b2,o2,hb2,hx2,hc2⟩:=H2.out.at k hlt
   have hla:∀ W,Below w.heap.size w W→(aDZ ⟨b1,o1,none⟩).run Tryz.prog W=.ok (.agg (vs .u8 32 (aCT f k))) W:=fun W h=>aBa (fun j hj=>(aAk h hb1).trans (hc1 j hj))
   have hlb:∀ W,Below w.heap.size w W→(aDZ ⟨b2,o2,none⟩).run Tryz.prog W=.ok (.agg (vs .u8 32 (aCT g k))) W:=fun W h=>aBa (fun j hj=>(aAk h hb2).trans (hc2 j hj))
   have heq:eqR (aCT f k) (aCT g k)=true:=by
    have e:=aKk (c:=aCT f k) (c':=aCT g k) (d:=aCT g k) (d':=aCT g k) (fun j hj=>HFG.out _ (by omega)) (fun _ _=>rfl)
    rw [e]
    exact aMH _
   have HLA:=hid hla
   have HLB:=hid hlb
   have HEQ:=hid heq
   have HDR:=hid hB.drew
   clear hla hlb heq hc1 hc2 hB
   go_upto_region 6 with fail
   refine wp_region_noPanic ?_
   refine wp_region_held_drew (S:=fun W=>Below w.heap.size w W) (by kernel_rfl) (HDR.out) (fun hHeld=>?_)
   refine tk 0 (v:=?v1) ?y1 hHeld ?r1
   case y1=>intro w hSw;go_simp;try with_reducible rfl
   refine tk 1 (v:=?v2) ?y2 hHeld ?r2
   case y2=>intro w hSw;go_simp;try with_reducible rfl
   refine tk 2 (v:=?v3) ?y3 hHeld ?r3
   case y3=>intro w hSw;go_simp;try with_reducible rfl
   refine tk 3 (v:=?v4) ?y4 hHeld ?r4
   case y4=>intro w hSw;have ld:=HLA.out _ hSw;go_simp;try with_reducible rfl
   refine tk 4 (v:=?v5) ?y5 hHeld ?r5
   case y5=>intro w hSw;go_simp;try with_reducible rfl
   refine tk 5 (v:=?v6) ?y6 hHeld ?r6
   case y6=>intro w hSw;go_simp;try with_reducible rfl
   refine tk 6 (v:=?v7) ?y7 hHeld ?r7
   case y7=>intro w hSw;go_simp;try with_reducible rfl
   refine tk 7 (v:=?v8) ?y8 hHeld ?r8
   case y8=>intro w hSw;have ld:=HLB.out _ hSw;go_simp;try with_reducible rfl
   try simp only [Act.put,z_1,z_2,z_3,z_4,z_5,z_6,z_7]
   refine wpAnyH_take (i:=8) rfl (by kernel_rfl) (by kernel_rfl) (by kernel_rfl) (fun _ _ _ h=>h) (aJK (by rfl) _ _ _ rfl (aCT f k) (aCT g k) rfl rfl) hHeld ?_
   rw [HEQ.out,Bool.not_true]
   try simp only [Act.put,z_1,z_2,z_3,z_4,z_5,z_6,z_7]
   refine wpAnyH_done (by kernel_rfl) ?_ _
   refine NoPanic.normal ?_
   go_wp2
   go_roundw
   case rel=>exact ⟨k+1,by omega,by go_num,HDR.out⟩
   case measure=>simp [intOf];omega
  ·have ek:k=len:=by omega
   subst ek
   have b3:decide (k < k)=false:=by simp
   go_wp2
   go_ret
   exact ⟨rfl,hB⟩
theorem aLx (d:Nat) (hd:d≤40):wrap64 ((2:Int) ^ d)=((2 ^ d:Nat):Int):=by
 have:2 ^ d≤2 ^ 40:=Nat.pow_le_pow_right (by omega) hd
 unfold wrap64
 have e:((2:Int) ^ d)=((2 ^ d:Nat):Int):=by simp
 rw [e]
 have h0:0 < 2 ^ d:=Nat.two_pow_pos d
 generalize 2 ^ d=X at this h0 ⊢
 have h1:(X:Int)≤1099511627776:=by omega
 omega
set_option maxRecDepth 20000 in
set_option maxHeartbeats 1000000 in
theorem aJp (n : Nat) (w : World) (hn : n ≤ 1099511627776) :
    Calls Tryz.prog 119 #[.int .i64 n] w fun e w'=>e=.returned (.int .i64 (dpt n:Nat))∧w'=w:=by
 have hD2:=aKf n hn
 have hD3:=aKe n hn
 have hD4:=fun k=>aOa n k hn
 generalize dpt n=D at hD2 hD3 hD4 ⊢
 have HD4:=hid hD4
 clear hD4
 go_enter Tryz.func119,Tryz.ntmps119
 go_wp2
 go_loopw [3] (fun i wr=>∃ k:Nat,k≤D∧i=.int .i64 k∧wr=w) (fun i _=>D - (intOf i).toNat)
 case atStart=>exact ⟨0,by omega,rfl,rfl⟩
 case round =>
  obtain ⟨k,hk,rfl,rfl⟩:=hrel
  have hs:=aLx k (by omega)
  obtain ⟨X,eX⟩:∃ X:Nat,2 ^ k=X:=⟨_,rfl⟩
  rw [eX] at hs
  by_cases hlt:k < D
  ·have hx:=HD4.out k hlt
   rw [eX] at hx
   have b3:decide (X < n)=true:=by simp;omega
   have b4:decide ((X:Int) < (n:Int))=true:=by simp;omega
   clear eX
   go_wp2
   go_roundw
   case rel=>exact ⟨k+1,by omega,by go_num,by trivial⟩
   case measure=>simp [intOf];omega
  ·have ek:k=D:=by omega
   subst ek
   have b3:decide (X < n)=false:=by simp;omega
   have b4:decide ((X:Int) < (n:Int))=false:=by simp;omega
   clear eX hD3
   go_wp2
   go_ret
   exact ⟨rfl,rfl⟩
end
section
open Go.RowKit
set_option linter.unusedVariables false
set_option linter.unusedSimpArgs false
attribute [local go_sem ↓] aAu aAt aAF aB3 aCj aCm aCh aAQ aAL aCe aCr aE7
end
section
open Go.RowKit
set_option linter.unusedVariables false
set_option linter.unusedSimpArgs false
theorem aEa (f g:Nat→Int) (len m:Nat):∀ (e i i':Nat),(∀ t,t < 2 ^ e→∀ j,j < 32→nd f len 0 (i*2 ^ e+t) j=nd g m 0 (i'*2 ^ e+t) j)→∀ j,j < 32→nd f len e i j=nd g m e i' j
 | 0, i, i', h => by
  intro j hj
  have:=h 0 (by simp) j hj
  simpa using this
 | e + 1, i, i', h => by
  intro j hj
  have hp:2 ^ (e+1)=2*2 ^ e:=by rw [Nat.pow_succ,Nat.mul_comm]
  refine aGq (aEa f g len m e (2*i) (2*i') fun t ht j hj=>?_) (aEa f g len m e (2*i+1) (2*i'+1) fun t ht j hj=>?_) j hj
  ·have:=h t (by omega) j hj
   rw [hp] at this
   rw [show 2*i*2 ^ e+t=i*(2*2 ^ e)+t by rw [Nat.mul_comm 2 i,Nat.mul_assoc],show 2*i'*2 ^ e+t=i'*(2*2 ^ e)+t by rw [Nat.mul_comm 2 i',Nat.mul_assoc]]
   exact this
  ·have:=h (2 ^ e+t) (by omega) j hj
   rw [hp] at this
   rw [show (2*i+1)*2 ^ e+t=i*(2*2 ^ e)+(2 ^ e+t) by rw [Nat.add_mul,Nat.one_mul,Nat.mul_comm 2 i,Nat.mul_assoc,Nat.add_assoc],show (2*i'+1)*2 ^ e+t=i'*(2*2 ^ e)+(2 ^ e+t) by rw [Nat.add_mul,Nat.one_mul,Nat.mul_comm 2 i',Nat.mul_assoc,Nat.add_assoc]]
   exact this
def shf (f:Nat→Int) (s:Nat) (q:Nat):Int:=f (32*s+q)
theorem aPY (f:Nat→Int) (s t:Nat):shf (shf f s) t=shf f (s+t):=by
 funext q
 unfold shf
 rw [Nat.mul_add,Nat.add_assoc]
theorem aGb (f:Nat→Int) (s i:Nat):aCT (shf f s) i=aCT f (s+i):=by
 funext j
 unfold aCT shf
 rw [Nat.mul_add,Nat.add_assoc]
theorem aPB (f:Nat→Int) (n d h:Nat) (hh:h=min (2 ^ d) n):∀ j,j < 32→nd f n d 0 j=nd f h d 0 j:=by
 refine aEa f f n h d 0 0 fun t ht j hj=>?_
 unfold nd
 rw [Nat.zero_mul,Nat.zero_add]
 by_cases h1:t < n
 ·rw [if_pos h1,if_pos (by omega)]
 ·rw [if_neg h1,if_neg (by omega)]
theorem aN6 (f:Nat→Int) (n d h:Nat) (hh:h=min (2 ^ d) n):∀ j,j < 32→nd f n d 1 j=nd (shf f h) (n - h) d 0 j:=by
 refine aEa f (shf f h) n (n - h) d 1 0 fun t ht j hj=>?_
 unfold nd
 rw [Nat.zero_mul,Nat.zero_add,Nat.one_mul]
 by_cases h1:2 ^ d+t < n
 ·rw [if_pos h1,if_pos (by omega),aGb,show h=2 ^ d by omega]
 ·rw [if_neg h1,if_neg (by omega)]
def trV (f:Nat→Int):Nat→Nat→Nat→Nat→Int
 | 0, s, n => if n = 0 then zr 0 else aCT f s
 | d + 1, s, n => if n = 0 then zr (d + 1) else tw (trV f d s (min (2 ^ d) n)) (trV f d (s + min (2 ^ d) n) (n - min (2 ^ d) n))
theorem aLH (f:Nat→Int):∀ (d s n:Nat),n≤2 ^ d→∀ j,j < 32→trV f d s n j=nd (shf f s) n d 0 j
 | 0, s, n, hn => by
  intro j hj
  unfold trV nd
  by_cases h:n=0
  ·rw [if_pos h,if_neg (by omega)]
   rfl
  ·rw [if_neg h,if_pos (by omega),aGb]
   rfl
 | d + 1, s, n, hn => by
  intro j hj
  have hp:2 ^ (d+1)=2*2 ^ d:=by rw [Nat.pow_succ,Nat.mul_comm]
  unfold trV
  by_cases h:n=0
  ·subst h
   rw [if_pos rfl,aG4 (shf f s) 0 (d+1) 0 (by have:=aSZ 0 (d+1);omega)]
  ·rw [if_neg h]
   obtain ⟨m,hm⟩:∃ m,m=min (2 ^ d) n:=⟨_,rfl⟩
   rw [←hm]
   refine aGq (fun j hj=>?_) (fun j hj=>?_) j hj
   ·rw [aLH f d s m (by omega) j hj]
    exact (aPB (shf f s) n d m hm j hj).symm
   ·rw [aLH f d (s+m) (n - m) (by omega) j hj,←aPY]
    exact (aN6 (shf f s) n d m hm j hj).symm
end
end Go.Proofs.YtdjplhibmomajaaGreatDoor
