/- A part. -/
import Derived.Test.YtfgmddnfhphdeaaGreatDoorStA
import Derived.Test.YtfgmddnfhphdeaaGreatDoorQA
import Derived.Test.YtfgmddnfhphdeaaGreatDoorShelf
import Derived.Test.YtfgmddnfhphdeaaGreatDoorQC
import Derived.Test.YtfgmddnfhphdeaaGreatDoorQF
namespace Go.Proofs.YtfgmddnfhphdeaaGreatDoor
open Go.RowKit
set_option linter.unusedVariables false
set_option linter.unusedSimpArgs false
set_option maxRecDepth 20000
attribute [local go_sem ↓] sv24_eq lv24_eq ix22_eq sv8_eq
def eB (K:Nat) (g:Nat→Nat→Int) (q:Nat):Int:=g (q / K) (q % K)
theorem bl_two (f:Nat→Int) (n k:Nat):bl f n++bl (fun q=>f (n+q)) k=bl f (n+k):=by
 unfold bl
 rw [List.range_add,List.map_append,List.map_map]
 rfl
theorem bl_each (K:Nat) (hK:0 < K) (g:Nat→Nat→Int) (k:Nat):bl (eB K g) (K*k)++bl (g k) K=bl (eB K g) (K*(k+1)):=by
 have h:bl (g k) K=bl (fun q=>eB K g (K*k+q)) K:=bl_congr fun i hi=>by
  show g k i=g ((K*k+i) / K) ((K*k+i) % K)
  rw [Nat.mul_add_div hK,Nat.div_eq_of_lt hi,Nat.add_zero,Nat.mul_add_mod,Nat.mod_eq_of_lt hi]
 rw [h,bl_two,Nat.mul_add,Nat.mul_one]
def ixEth1 (x i:Value):Sem Value:=Instr.indexAt 35 x i
theorem ixEth1_eq (x i:Value):Instr.indexAt 35 x i=ixEth1 x i:=rfl
theorem sizeEth1 (w:World):(sizeOf 34).run Tryz.prog w=.ok 65 w:=by
 have hi:(Tryz.prog.info? 34).map (·.size)=some 65:=by kernel_rfl
 cases hq:Tryz.prog.info? 34 with
 | none => simp [hq] at hi
 | some i => simp [hq] at hi; simp [sizeOf, typeInfo, hq, hi]
theorem ixEth1_run (w:World) (b off len cap i:Nat) (h:i < len):(ixEth1 (.slice (some ⟨b,off,none⟩) len cap) (.int .i64 i)).run Tryz.prog w=.ok (.pointer (some ⟨b,off+65*i,none⟩)) w:=by
 unfold ixEth1 Instr.indexAt
 have h1:(0:Int)≤(i:Int)∧(i:Int) < (len:Int):=by omega
 simp only [asIntOf,Sem.run_bind,Sem.run_pure,Result.andThen_ok,run_underlying Tryz.underlying35,if_pos h1,sizeEth1,Addr.add_mid,Int.toNat_natCast]
 rw [Nat.mul_comm]
theorem lvEth1_at {w:World} {g o:Nat} {x:VEth1} (h:w.rangeAt g o (celL (sEth1 x))):(lvEth1 ⟨g,o,none⟩).run Tryz.prog w=.ok (.agg (cel (sEth1 x))) w :=
 loadAt_var (run_loadAt_mid w g o 34 _ _ h Tryz.underlying34 rfl (by rw [celL_len,show slen (sEth1 x)=65 from rfl];kernel_rfl))
attribute [local go_sem ↓] lvEth1_eq svEth1_eq ixEth1_eq
def ixValidator (x i:Value):Sem Value:=Instr.indexAt 36 x i
theorem ixValidator_eq (x i:Value):Instr.indexAt 36 x i=ixValidator x i:=rfl
theorem sizeValidator (w:World):(sizeOf 74).run Tryz.prog w=.ok 86 w:=by
 have hi:(Tryz.prog.info? 74).map (·.size)=some 86:=by kernel_rfl
 cases hq:Tryz.prog.info? 74 with
 | none => simp [hq] at hi
 | some i => simp [hq] at hi; simp [sizeOf, typeInfo, hq, hi]
theorem ixValidator_run (w:World) (b off len cap i:Nat) (h:i < len):(ixValidator (.slice (some ⟨b,off,none⟩) len cap) (.int .i64 i)).run Tryz.prog w=.ok (.pointer (some ⟨b,off+86*i,none⟩)) w:=by
 unfold ixValidator Instr.indexAt
 have h1:(0:Int)≤(i:Int)∧(i:Int) < (len:Int):=by omega
 simp only [asIntOf,Sem.run_bind,Sem.run_pure,Result.andThen_ok,run_underlying Tryz.underlying36,if_pos h1,sizeValidator,Addr.add_mid,Int.toNat_natCast]
 rw [Nat.mul_comm]
theorem lvValidator_at {w:World} {g o:Nat} {x:VValidator} (h:w.rangeAt g o (celL (sValidator x))):(lvValidator ⟨g,o,none⟩).run Tryz.prog w=.ok (.agg (cel (sValidator x))) w :=
 loadAt_var (run_loadAt_mid w g o 74 _ _ h Tryz.underlying74 rfl (by rw [celL_len,show slen (sValidator x)=86 from rfl];kernel_rfl))
attribute [local go_sem ↓] lvValidator_eq svValidator_eq ixValidator_eq
end Go.Proofs.YtfgmddnfhphdeaaGreatDoor
namespace Go.Proofs.YtfgmddnfhphdeaaGreatDoor.Z
open Go.RowKit
set_option linter.unusedVariables false
set_option linter.unusedSimpArgs false
def bo (g:Nat→Bool):Nat→Nat
 | 0 => 0
 | k + 1 => bo g k + (if g k = true then 2 ^ k else 0)
theorem bo_lt (g:Nat→Bool) (k:Nat):bo g k < 2 ^ k:=by
 induction k with
 | zero => simp [bo]
 | succ k ih =>
  unfold bo
  rw [Nat.pow_succ]
  split<;>omega
theorem bo_bit (g:Nat→Bool) (n k:Nat):(bo g n).testBit k=(decide (k < n) && g k):=by
 induction n with
 | zero => simp [bo]
 | succ n ih =>
  have hl:=bo_lt g n
  unfold bo
  by_cases hg:g n=true
  ·rw [if_pos hg,Nat.add_comm]
   by_cases h:k < n
   ·rw [Nat.testBit_two_pow_add_gt h,ih]
    simp [h,Nat.lt_succ_of_lt h]
   ·by_cases e:k=n
    ·subst e
     rw [Nat.testBit_two_pow_add_eq,Nat.testBit_lt_two_pow hl]
     simp [hg]
    ·rw [Nat.testBit_lt_two_pow]
     ·simp [show ¬ k < n+1 by omega]
     ·have:2 ^ (n+1)≤2 ^ k:=Nat.pow_le_pow_right (by omega) (by omega)
      rw [Nat.pow_succ] at this
      omega
  ·rw [if_neg hg,Nat.add_zero,ih]
   by_cases e:k=n
   ·subst e
    simp at hg
    simp [hg]
   ·have:k < n+1↔k < n:=by omega
    simp [this]
def byt (f:Nat→Bool) (n q:Nat):Nat:=bo (fun k=>decide (8*q+k < n) && f (8*q+k)) 8
theorem byt_lt (f:Nat→Bool) (n q:Nat):byt f n q < 256:=bo_lt _ 8
theorem byt_bit (f:Nat→Bool) (n q k:Nat):(byt f n q).testBit k=(decide (k < 8) && (decide (8*q+k < n) && f (8*q+k))):=bo_bit _ 8 k
theorem byt_zero (f:Nat→Bool) (q:Nat):byt f 0 q=0:=by
 apply Nat.eq_of_testBit_eq
 intro k
 rw [byt_bit]
 simp
theorem byt_other (f:Nat→Bool) (n q:Nat) (h:q≠n / 8):byt f (n+1) q=byt f n q:=by
 apply Nat.eq_of_testBit_eq
 intro k
 rw [byt_bit,byt_bit]
 by_cases hk:k < 8
 ·have:8*q+k < n+1↔8*q+k < n:=by omega
  simp [this]
 ·simp [hk]
theorem byt_skip (f:Nat→Bool) (n q:Nat) (h:f n=false):byt f (n+1) q=byt f n q:=by
 apply Nat.eq_of_testBit_eq
 intro k
 rw [byt_bit,byt_bit]
 by_cases e:8*q+k=n
 ·rw [e,h]
  simp
 ·have:8*q+k < n+1↔8*q+k < n:=by omega
  simp [this]
theorem byt_or (f:Nat→Bool) (n:Nat) (h:f n=true):byt f n (n / 8) ||| 2 ^ (n % 8)=byt f (n+1) (n / 8):=by
 apply Nat.eq_of_testBit_eq
 intro k
 rw [Nat.testBit_or,byt_bit,byt_bit,Nat.testBit_two_pow]
 by_cases hk:k < 8
 ·by_cases e:n % 8=k
  ·have e2:8*(n / 8)+k=n:=by omega
   rw [e2,h]
   simp [e,hk]
  ·have:8*(n / 8)+k < n+1↔8*(n / 8)+k < n:=by omega
   simp [this,e]
 ·have:¬ n % 8=k:=by omega
  simp [hk,this]
theorem byt_low (f:Nat→Bool) (n:Nat):byt f n (n / 8) < 2 ^ (n % 8):=by
 apply Nat.lt_pow_two_of_testBit
 intro k hk
 rw [byt_bit]
 simp [show ¬ 8*(n / 8)+k < n by omega]
theorem byt_add (f:Nat→Bool) (n:Nat) (h:f n=true):byt f n (n / 8)+2 ^ (n % 8)=byt f (n+1) (n / 8):=by
 rw [←byt_or f n h,Nat.or_comm,Nat.add_comm]
 have:=Nat.two_pow_add_eq_or_of_lt (byt_low f n) 1
 simpa using this
end Go.Proofs.YtfgmddnfhphdeaaGreatDoor.Z
namespace Go.Proofs.YtfgmddnfhphdeaaGreatDoor.Z
open Go.RowKit
set_option linter.unusedVariables false
set_option linter.unusedSimpArgs false
def Bls (w:World) (a:Option Addr) (len cap:Nat) (f:Nat→Bool):Prop :=
 (a=none∧len=0∧cap=0)∨(∃ x,a=some x∧len=0)∨∃ b off,a=some ⟨b,off,none⟩∧len≤cap∧cap≤9223372036854775807∧b < w.heap.size∧∀ j,j < len→w.cell? ⟨b,off+j,none⟩=some (.bool (f j))
theorem Bls.below {w w':World} {a:Option Addr} {len cap:Nat} {f:Nat→Bool} (h:Bls w a len cap f) (hb:Below w.heap.size w w'):Bls w' a len cap f:=by
 rcases h with h | h | ⟨b,off,h1,h2,h3,h4,h5⟩
 ·exact .inl h
 ·exact .inr (.inl h)
 ·exact .inr (.inr ⟨b,off,h1,h2,h3,Nat.lt_of_lt_of_le h4 hb.size,fun j hj=>(below_cell hb h4).trans (h5 j hj)⟩)
theorem bls_at {w:World} {a:Option Addr} {len cap:Nat} {f:Nat→Bool} (h:Bls w a len cap f) (j:Nat) (hj:j < len):∃ b off,a=some ⟨b,off,none⟩∧b < w.heap.size∧w.cell? ⟨b,off+j,none⟩=some (.bool (f j)):=by
 rcases h with ⟨_,h,_⟩ | ⟨_,_,h⟩ | ⟨b,off,h1,h2,h3,h4,h5⟩
 ·omega
 ·omega
 ·exact ⟨b,off,h1,h4,h5 j hj⟩
end Go.Proofs.YtfgmddnfhphdeaaGreatDoor.Z
namespace Go.Proofs.YtfgmddnfhphdeaaGreatDoor.Z
open Go.RowKit
set_option linter.unusedVariables false
set_option linter.unusedSimpArgs false
theorem made_vals (z:Value) (n:Nat):madeCells #[z] n=vals n (fun _=>z):=by
 apply Array.ext_getElem?
 intro j
 by_cases hj:j < n
 ·rw [vals_get _ _ _ hj]
  simp [madeCells,hj,Nat.mod_one]
 ·rw [Array.getElem?_eq_none (by rw [size_madeCells];omega),Array.getElem?_eq_none (by rw [vals_size];omega)]
theorem made_vs (n:Nat):madeCells #[.int .u8 0] n=vs .u8 n (fun _=>0):=made_vals _ n
theorem make_bytes (W:World) (n:Nat) (hn:n≤140737488355328):(Instr.makeSlice 39 (.int .i64 n) (.int .i64 n)).run Tryz.prog W=.ok (.slice (some ⟨W.heap.size,0,none⟩) n n) (W.alloc (.cells (vs .u8 n (fun _=>0)) 5)):=by
 obtain ⟨i,hi,hz0,hz1,hz2⟩:=info_parts info8
 have h:=run_make (P:=Tryz.prog) W 39 5 i (.int .u8 0) Tryz.underlying39 hi hz0 .i64 .i64 n n (by omega) (Int.le_refl _) (by rw [hz2];omega) (by omega)
 rw [hz1,Int.toNat_natCast,Nat.mul_one] at h
 rw [h,←made_vs]
 rfl
theorem bys_at {w:World} {a:Option Addr} {len cap:Nat} {m:Nat→Int} (h:Bys w a len cap m) (j:Nat) (hj:j < len):∃ b off,a=some ⟨b,off,none⟩∧b < w.heap.size∧w.cell? ⟨b,off+j,none⟩=some (.int .u8 (m j)):=by
 rcases h with ⟨_,h,_⟩ | ⟨_,_,h⟩ | ⟨b,off,h1,h2,h3,h4,h5⟩
 ·omega
 ·omega
 ·exact ⟨b,off,h1,h4,h5 j hj⟩
end Go.Proofs.YtfgmddnfhphdeaaGreatDoor.Z
namespace Go.Proofs.YtfgmddnfhphdeaaGreatDoor.Z
open Go.RowKit
set_option linter.unusedVariables false
set_option linter.unusedSimpArgs false
theorem vs0 (f:Nat→Bool) (N:Nat):vs .u8 N (fun _=>0)=vs .u8 N (fun q=>(byt f 0 q:Int)):=vs_congr fun q _=>by rw [byt_zero];rfl
end Go.Proofs.YtfgmddnfhphdeaaGreatDoor.Z
namespace Go.Proofs.YtfgmddnfhphdeaaGreatDoor.Z
open Go.RowKit
set_option linter.unusedVariables false
set_option linter.unusedSimpArgs false
def slB (x:Value) (lo hi:Option Value):Sem Value:=Instr.sliceAt 51 x lo hi none
theorem slB_eq (x:Value) (lo hi:Option Value):Instr.sliceAt 51 x lo hi none=slB x lo hi:=rfl
end Go.Proofs.YtfgmddnfhphdeaaGreatDoor.Z
namespace Go.Proofs.YtfgmddnfhphdeaaGreatDoor.Z
open Go.RowKit
set_option linter.unusedVariables false
set_option linter.unusedSimpArgs false
theorem add_pow (B r:Nat) (hr:r < 8) (hs:B+2 ^ r < 256):((B:Int)+2 ^ r) % 256=((B+2 ^ r:Nat):Int):=by
 rw [show ((2:Int) ^ r)=((2 ^ r:Nat):Int) by simp,←Int.natCast_add]
 exact Int.emod_eq_of_lt (Int.natCast_nonneg _) (Int.ofNat_lt.2 hs)
set_option maxHeartbeats 400000 in
theorem rvector_any (f : Nat → Bool) (a : Option Addr) (n cap : Nat) (w : World) (h : Bls w a n cap f) (hnb : n ≤ 140737488355328) :
    Calls Tryz.prog 68 #[.slice a n cap] w fun e w'=>e=.returned (.slice (some ⟨w.heap.size,0,none⟩) ((n+7) / 8) ((n+7) / 8))∧w'.heap[w.heap.size]?=some (.cells (vs .u8 ((n+7) / 8) (fun q=>(byt f n q:Int))) 5)∧Below w.heap.size w w'∧w'.heap.size=w.heap.size+1:=by
 have hmk:=make_bytes w ((n+7) / 8) (by omega)
 obtain ⟨N,eN⟩:∃ N,(n+7) / 8=N:=⟨_,rfl⟩
 have eN':((n:Int)+7) / 8=(N:Int):=by omega
 have hN:n≤8*N:=by omega
 rw [eN] at hmk ⊢
 have H:=hid h
 have hn:(n:Int)≤140737488355328:=by omega
 have n0:(0:Int)≤(n:Int):=by omega
 clear h eN
 go_enter Tryz.func68,Tryz.ntmps68
 go_wp2
 go_loopw [4] (fun v wr=>∃ k:Nat,k≤n∧v=.int .i64 k∧wr.heap[w.heap.size]?=some (.cells (vs .u8 N (fun q=>(byt f k q:Int))) 5)∧Below w.heap.size w wr∧wr.heap.size=w.heap.size+1) (fun v _=>n - (intOf v).toNat)
 case atStart=>exact ⟨0,by omega,rfl,(heap_new rfl).trans (by rw [vs0 f]),(Below.refl _ _).alloc (Nat.le_refl _) _,by simp⟩
 case round =>
  obtain ⟨k,hk,rfl,hr,hb,hz⟩:=hrel
  clear hmk
  by_cases hkn:k < n
  ·obtain ⟨b,off,rfl,hbb,ck0⟩:=bls_at H.out k hkn
   have ck:=(below_cell hb hbb).trans ck0
   obtain ⟨x,ex⟩:∃ x,f k=x:=⟨_,rfl⟩
   rw [ex] at ck
   have k1:(k:Int) < (n:Int):=by omega
   have k2:(0:Int)≤(k:Int):=by omega
   have HR:=hid hr
   have HB:=hid hb
   have HZ:=hid hz
   have EX:=hid ex
   clear ck0 ex
   cases x
   ·clear hr hb hz
    go_wp2
    go_roundw
    case rel =>
     refine ⟨k+1,by omega,by go_num,?_,HB.out,HZ.out⟩
     rw [HR.out]
     exact congrArg (fun c=>some (Obj.cells c 5)) (vs_congr fun q _=>by rw [byt_skip f k q EX.out])
    case measure=>simp [intOf];omega
   ·have cq:=row_int hr (k / 8) (by omega)
    have fq:=row_frozen hr (k / 8)
    obtain ⟨q,eq⟩:∃ q,k / 8=q:=⟨_,rfl⟩
    obtain ⟨B,eB⟩:∃ B,byt f k q=B:=⟨_,rfl⟩
    obtain ⟨r,er⟩:∃ r,k % 8=r:=⟨_,rfl⟩
    have e1:(k:Int) / 8=(q:Int):=by omega
    have e2:(k:Int) % 8=(r:Int):=by omega
    have q1:(q:Int) < (N:Int):=by omega
    have q2:(0:Int)≤(q:Int):=by omega
    have r1:(r:Int) < 8:=by omega
    have r2:(0:Int)≤(r:Int):=by omega
    rw [eq] at cq fq
    rw [eB] at cq
    have EE:=hid (And.intro eq (And.intro er eB))
    clear hr hb hz eq er eB
    go_wp2
    go_roundw
    case rel =>
     obtain ⟨eq,er,eB⟩:=EE.out
     refine ⟨k+1,by omega,by go_num,?_,HB.out.setCell (by simp) _,?_⟩
     ·refine (row_set HR.out q _).trans ?_
      rw [vs_set]
      refine congrArg (fun c=>some (Obj.cells c 5)) (vs_congr fun i _=>?_)
      by_cases hi:i=q
      ·have e3:=byt_add f k EX.out
       have e4:=byt_lt f (k+1) (k / 8)
       rw [←e3,eq,er,eB] at e4
       rw [eq,er,eB] at e3
       rw [if_pos hi,add_pow B r (by omega) e4,hi,e3]
      ·rw [if_neg hi,byt_other f k i (by omega)]
     ·exact (size_set _ _ _).trans HZ.out
    case measure=>simp [intOf];omega
  ·have ek:k=n:=by omega
   subst ek
   have HR:=hid hr
   have HB:=hid hb
   clear hr hb
   go_wp2
   go_ret
   exact ⟨rfl,HR.out,HB.out,hz⟩
end Go.Proofs.YtfgmddnfhphdeaaGreatDoor.Z
namespace Go.Proofs.YtfgmddnfhphdeaaGreatDoor.Z
open Go.RowKit
set_option linter.unusedVariables false
set_option linter.unusedSimpArgs false
end Go.Proofs.YtfgmddnfhphdeaaGreatDoor.Z
namespace Go.Proofs.YtfgmddnfhphdeaaGreatDoor.Z
open Go.RowKit
set_option linter.unusedVariables false
set_option linter.unusedSimpArgs false
attribute [local go_sem ↓] slB_eq
end Go.Proofs.YtfgmddnfhphdeaaGreatDoor.Z
namespace Go.Proofs.YtfgmddnfhphdeaaGreatDoor
open Go.RowKit
set_option linter.unusedVariables false
set_option linter.unusedSimpArgs false
set_option maxRecDepth 20000
def zS (r:Nat):Int:=[8,32,8,16,112,256,256,0,72,0,8,0,0,256,64,0,0,1,40,40,40,0,432,432].getD r 0
def qS (x:VState):List (Nat × (Nat→Int)):=[(8,nmB x.f0),(32,x.f1),(8,nmB x.f2),(16,ct7 (eFork x.f3)),(112,ct7 (eHeader x.f4)),(256,x.f5),(256,x.f6),(32*x.f7.n,x.f7.z),(72,ct7 (eEth1 x.f8)),(72*x.f9.n,eB 72 fun i=>ct7 (eEth1 (x.f9.z i))),(8,nmB x.f10),(121*x.f11.n,eB 121 fun i=>ct7 (eValidator (x.f11.z i))),(8*x.f12.n,eB 8 fun i=>nmB (x.f12.z i)),(256,x.f13),(64,eB 8 fun i=>nmB (x.f14 i)),(x.f15.n,x.f15.z),(x.f16.n,x.f16.z),(1,fun q=>(Z.byt x.f17 4 q:Int)),(40,ct7 (eCheckpoint x.f18)),(40,ct7 (eCheckpoint x.f19)),(40,ct7 (eCheckpoint x.f20)),(8*x.f21.n,eB 8 fun i=>nmB (x.f21.z i)),(432,ct7 (eCommittee x.f22)),(432,ct7 (eCommittee x.f23))]
def nilQ:Nat × (Nat→Int):=(0,fun _=>0)
def pL (x:VState) (r:Nat):Nat:=((qS x).getD r nilQ).1
def pF (x:VState) (r:Nat):Nat→Int:=((qS x).getD r nilQ).2
def tL (x:VState):Nat:=Z.hdL zS 24+Z.loL zS (pL x) 24
theorem tL_is (x:VState):tL x=2101+32*x.f7.n+72*x.f9.n+121*x.f11.n+8*x.f12.n+x.f15.n+x.f16.n+8*x.f21.n:=by
 show 2101+(0+0+0+0+0+0+0+0+32*x.f7.n+0+72*x.f9.n+0+121*x.f11.n+8*x.f12.n+0+0+x.f15.n+x.f16.n+0+0+0+0+8*x.f21.n+0+0)=_
 omega
theorem bsP_24 (W:World) (p0 p1 p2 p3 p4 p5 p6 p7 p8 p9 p10 p11 p12 p13 p14 p15 p16 p17 p18 p19 p20 p21 p22 p23:Pt):(bsP 24 #[(0,ptv p0),(1,ptv p1),(2,ptv p2),(3,ptv p3),(4,ptv p4),(5,ptv p5),(6,ptv p6),(7,ptv p7),(8,ptv p8),(9,ptv p9),(10,ptv p10),(11,ptv p11),(12,ptv p12),(13,ptv p13),(14,ptv p14),(15,ptv p15),(16,ptv p16),(17,ptv p17),(18,ptv p18),(19,ptv p19),(20,ptv p20),(21,ptv p21),(22,ptv p22),(23,ptv p23)]).run Tryz.prog W=.ok (.slice (some ⟨W.heap.size,0,none⟩) 24 24) (W.alloc (.cells ([p0,p1,p2,p3,p4,p5,p6,p7,p8,p9,p10,p11,p12,p13,p14,p15,p16,p17,p18,p19,p20,p21,p22,p23].map ptv).toArray 39)):=by kernel_rfl
attribute [local go_sem ↓] bsP_eq bsI_eq
theorem getD_ptb (ps:List Pt) (r:Nat):(ps.map ptb).getD r nilQ=ptb (ps.getD r nilP):=by
 rw [List.getD_eq_getElem?_getD,List.getD_eq_getElem?_getD,List.getElem?_map]
 cases ps[r]?<;>rfl
theorem seg_na {w:World} {g:Nat} {t:TypeId} {x:VState} (h:w.heap[g]?=some (.cells (cel (sState x)) t)):Z.Nms .u64 w (some ⟨g,979,none⟩) 8 x.f14 :=
 .inr ⟨g,979,rfl,(Array.getElem?_eq_some_iff.1 h).1,fun j hj=>by
  rcases (by omega:j=0∨j=1∨j=2∨j=3∨j=4∨j=5∨j=6∨j=7) with rfl | rfl | rfl | rfl | rfl | rfl | rfl | rfl
  ·exact cS14_0 h
  ·exact cS14_1 h
  ·exact cS14_2 h
  ·exact cS14_3 h
  ·exact cS14_4 h
  ·exact cS14_5 h
  ·exact cS14_6 h
  ·exact cS14_7 h⟩
theorem seg_bits {w:World} {g:Nat} {t:TypeId} {x:VState} (h:w.heap[g]?=some (.cells (cel (sState x)) t)):Z.Bls w (some ⟨g,989,none⟩) 4 4 x.f17 :=
 .inr (.inr ⟨g,989,rfl,Nat.le_refl _,by omega,(Array.getElem?_eq_some_iff.1 h).1,fun j hj=>by
  rcases (by omega:j=0∨j=1∨j=2∨j=3) with rfl | rfl | rfl | rfl
  ·exact cS17_0 h
  ·exact cS17_1 h
  ·exact cS17_2 h
  ·exact cS17_3 h⟩)
attribute [local go_sem ↓] bsP_eq bsI_eq lvState_eq svState_eq lvFork_eq lvHeader_eq lvEth1_eq lvCheckpoint_eq lvCommittee_eq
end Go.Proofs.YtfgmddnfhphdeaaGreatDoor
namespace Go.Proofs.YtfgmddnfhphdeaaGreatDoor
open Go.RowKit
set_option linter.unusedVariables false
set_option linter.unusedSimpArgs false
set_option maxRecDepth 20000
theorem info_out {P:Program} {t:TypeId} {z:Value} {s b:Nat} (h:(P.info? t).map (fun i=>(i.zero,i.size,i.bytes))=some (some z,s,b)):∃ i,P.info? t=some i∧i.zero=some z∧i.size=s∧i.bytes=b:=by
 cases hq:P.info? t with
 | none => simp [hq] at h
 | some i => simp [hq] at h; exact ⟨i, rfl, h.1, h.2.1, h.2.2⟩
attribute [local go_sem ↓] ix22_eq sl22_eq
def ixU (x i:Value):Sem Value:=Instr.indexAt 37 x i
theorem ixU_eq (x i:Value):Instr.indexAt 37 x i=ixU x i:=rfl
theorem size_u64 (w:World):(sizeOf 22).run Tryz.prog w=.ok 1 w:=by
 obtain ⟨i,hi,_,hs,_⟩:=info_out (P:=Tryz.prog) (t:=22) (z:=.int .u64 0) (s:=1) (b:=8) (by kernel_rfl)
 simp [sizeOf,typeInfo,hi,hs]
theorem ixU_run (w:World) (b off len cap i:Nat) (h:i < len):(ixU (.slice (some ⟨b,off,none⟩) len cap) (.int .i64 i)).run Tryz.prog w=.ok (.pointer (some ⟨b,off+i,none⟩)) w:=by
 unfold ixU Instr.indexAt
 have h1:(0:Int)≤(i:Int)∧(i:Int) < (len:Int):=by omega
 simp only [asIntOf,Sem.run_bind,Sem.run_pure,Result.andThen_ok,run_underlying Tryz.underlying37,if_pos h1,size_u64,Addr.add_mid,Int.toNat_natCast,Nat.mul_one]
attribute [local go_sem ↓] ixU_eq
end Go.Proofs.YtfgmddnfhphdeaaGreatDoor
namespace Go.Proofs.YtfgmddnfhphdeaaGreatDoor
open Go.RowKit
set_option linter.unusedVariables false
set_option linter.unusedSimpArgs false
set_option maxRecDepth 20000
def oState:VState:=⟨0,fun _=>0,0,oFork,oHeader,fun _=>0,fun _=>0,⟨none,0,0,fun _=>0⟩,oEth1,⟨none,0,0,fun _=>oEth1⟩,0,⟨none,0,0,fun _=>oValidator⟩,⟨none,0,0,fun _=>0⟩,fun _=>0,fun _=>0,⟨none,0,0,fun _=>0⟩,⟨none,0,0,fun _=>0⟩,fun _=>false,oCheckpoint,oCheckpoint,oCheckpoint,⟨none,0,0,fun _=>0⟩,oCommittee,oCommittee⟩
theorem zeroState (W:World):(zeroValue 49).run Tryz.prog W=.ok (.agg (cel (sState oState))) W:=by kernel_rfl
theorem bdState_0 (W:World):(bdState #[]).run Tryz.prog W=.ok (.agg (cel (sState oState))) W:=by kernel_rfl
def RI (w:World) (r y:Nat) (x:VState) (X:World):Prop:=Below w.heap.size w X∧X.heap[r]?=some (.cells (cel (sState oState)) 49)∧X.heap[y]?=some (.cells (cel (sState x)) 49)
theorem some_lt {X:World} {r:Nat} {o:Obj} (h:X.heap[r]?=some o):r < X.heap.size:=(Array.getElem?_eq_some_iff.1 h).1
theorem some_cell {X:World} {y i:Nat} {x:VState} (h:X.heap[y]?=some (.cells (cel (sState x)) 49)) (hi:i < 1957):∃ v,X.cell? ⟨y,i,none⟩=some v:=⟨_,(row_cell h i).trans (Array.getElem?_eq_getElem (by rw [cel_size,slState];exact hi))⟩
theorem RI.below {w X X':World} {r y:Nat} {x:VState} (h:RI w r y x X) (hb:Below X.heap.size X X'):RI w r y x X' :=
 ⟨h.1.trans (hb.mono h.1.size),(hb.block r (some_lt h.2.1)).trans h.2.1,(hb.block y (some_lt h.2.2)).trans h.2.2⟩
theorem RI.kept {w X X':World} {r y:Nat} {x x':VState} (h:RI w r y x X) (hr:r≠y) (hy:w.heap.size≤y) (hk:Kept y X X') (hn:X'.heap[y]?=some (.cells (cel (sState x')) 49)):RI w r y x' X' :=
 ⟨h.1.trans (hk.below hy h.1.size),(hk.block r (some_lt h.2.1) hr).trans h.2.1,hn⟩
theorem RI.set {w X:World} {r y:Nat} {x x':VState} (h:RI w r y x X) (hr:r≠y) (hy:w.heap.size≤y) (i:Nat) (v:Value) (he:(cel (sState x)).setIfInBounds i v=cel (sState x')):RI w r y x' (X.setCell ⟨y,i,none⟩ v) :=
 h.kept hr hy ((Kept.refl y X).setCell i v) ((row_set h.2.2 i v).trans (congrArg (fun c=>some (Obj.cells c 49)) he))
theorem RI.row {w X:World} {r y:Nat} {x x':VState} (h:RI w r y x X) (hr:r≠y) (hy:w.heap.size≤y):RI w r y x' (X.setRow y (cel (sState x'))) :=
 h.kept hr hy ((Kept.refl y X).setRow _) (setRow_at h.2.2)
attribute [local go_sem ↓] lvState_eq svState_eq bdState_eq ixP_eq
structure P0 (L:Nat→Nat) (f:Nat→Nat→Int):Prop where
 l0:L 0=8
 l1:L 1=32
 l2:L 2=8
 l3:L 3=16
 l4:L 4=112
 l5:L 5=256
 l6:L 6=256
 l7:L 7=0
 l8:L 8=72
 l9:L 9=0
 l10:L 10=8
 l11:L 11=0
 l12:L 12=0
 l13:L 13=256
 l14:L 14=64
 l15:L 15=0
 l16:L 16=0
 l17:L 17=1
 l18:L 18=40
 l19:L 19=40
 l20:L 20=40
 l21:L 21=0
 l22:L 22=432
 l23:L 23=432
 fb:∀ r q,0≤f r q∧f r q < 256
 b17:f 17 0 < 16
end Go.Proofs.YtfgmddnfhphdeaaGreatDoor
