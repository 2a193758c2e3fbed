/- A part. -/
import Derived.Test.YtfgmddnfhphdeaaGreatDoorHaB
namespace Go.Proofs.YtfgmddnfhphdeaaGreatDoor
open Go.RowKit
set_option linter.unusedVariables false
theorem ret_row8n {fn : Func} {R : Ending → World → Prop} {a : Act} {w' : World} (t : Tmp) (b : Nat) (old g : Nat → Int) (v0 v1 v2 v3 v4 v5 v6 v7 : Int) (h : fn.results = #[.cell t 146]) (hd : a.defers = []) (ht : a.tmps.getD t undef = .pointer (some ⟨b, 0, none⟩)) (hr : w'.heap[b]? = some (.cells (vs .u32 8 old) 146)) (e0 : v0 = g 0) (e1 : v1 = g 1) (e2 : v2 = g 2) (e3 : v3 = g 3) (e4 : v4 = g 4) (e5 : v5 = g 5) (e6 : v6 = g 6) (e7 : v7 = g 7)
    (hR:R (.returned (.agg (vs .u32 8 g))) ((((((((w'.setCell ⟨b,0,none⟩ (.int .u32 v0)).setCell ⟨b,1,none⟩ (.int .u32 v1)).setCell ⟨b,2,none⟩ (.int .u32 v2)).setCell ⟨b,3,none⟩ (.int .u32 v3)).setCell ⟨b,4,none⟩ (.int .u32 v4)).setCell ⟨b,5,none⟩ (.int .u32 v5)).setCell ⟨b,6,none⟩ (.int .u32 v6)).setCell ⟨b,7,none⟩ (.int .u32 v7))):bodyPost Tryz.prog fn R .ret a ((((((((w'.setCell ⟨b,0,none⟩ (.int .u32 v0)).setCell ⟨b,1,none⟩ (.int .u32 v1)).setCell ⟨b,2,none⟩ (.int .u32 v2)).setCell ⟨b,3,none⟩ (.int .u32 v3)).setCell ⟨b,4,none⟩ (.int .u32 v4)).setCell ⟨b,5,none⟩ (.int .u32 v5)).setCell ⟨b,6,none⟩ (.int .u32 v6)).setCell ⟨b,7,none⟩ (.int .u32 v7)) :=
 bodyPost_ret (results_cell h a.tmps _ b _ ht (load_row (row8 old hr g v0 v1 v2 v3 v4 v5 v6 v7 e0 e1 e2 e3 e4 e5 e6 e7) 146 _ Tryz.underlying146 rfl (by rw [vs_size];kernel_rfl))) hd hR
set_option maxRecDepth 20000 in
set_option maxHeartbeats 4000000 in
theorem block_any (K f s : Nat → Int) (b0 off len cap : Nat) (w : World) (hf : ∀ i, i < 64 → 0 ≤ f i ∧ f i < 256) (hs : ∀ i, i < 8 → 0 ≤ s i ∧ s i < 4294967296) (hK : Tab w 1 64 K) (hlen : 64 ≤ len) (hmax : len ≤ 4611686018427387904)
    (hz:∀ j,j < 64→w.cell? ⟨b0,off+j,none⟩=some (.int .u8 (f j))) (hb:b0 < w.heap.size) :
    Calls Tryz.prog 94 #[.agg (vs .u32 8 s),.slice (some ⟨b0,off,none⟩) len cap] w fun e w'=>e=.returned (.agg (vs .u32 8 (comp K f s)))∧Below w.heap.size w w':=by
 have HF:=hid hf
 have HKK:=hid hK
 have HSS:=hid hs
 have HZ:=hid hz
 clear hf hK hs hz
 go_enter Tryz.func94,Tryz.ntmps94
 go_wp2
 go_loopw [6] (fun i wr=>∃ k:Nat,k≤16∧i=.int .i64 k∧Below w.heap.size w wr∧wr.heap.size=w.heap.size+3∧wr.heap[w.heap.size]?=some (.cells (vs .u32 8 s) 146)∧wr.heap[w.heap.size+1]?=some (.cells (vs .u32 8 fun _=>0) 146)∧wr.heap[w.heap.size+1+1]?=some (.cells (vs .u32 64 fun j=>if j < k then schW f j else 0) 168)) (fun i _=>16 - (intOf i).toNat)
 case atStart =>
  refine ⟨0,by omega,rfl,?_,?_,?_,?_,?_⟩
  ·go_grown
  ·simp
  ·exact (heap_old (by simp;omega)).trans ((heap_old (by simp)).trans (heap_new rfl))
  ·exact (heap_old (by simp)).trans ((heap_new (by simp)))
  ·exact heap_new (by simp)
 case round =>
  obtain ⟨k,hk,rfl,hB,hz,r0,r1,r2⟩:=hrel
  by_cases hlt:k < 16
  ·have cs:=row_int r2 k (by omega)
   have fs:=row_frozen r2 k
   have EV:=hid (schW_lo f k hlt)
   have c0:wr.cell? ⟨b0,off+(4*k),none⟩=some (.int .u8 (f (4*k))):=(below_cell hB hb).trans (HZ.out _ (by omega))
   have c1:wr.cell? ⟨b0,off+(4*k+1),none⟩=some (.int .u8 (f (4*k+1))):=(below_cell hB hb).trans (HZ.out _ (by omega))
   have c2:wr.cell? ⟨b0,off+(4*k+2),none⟩=some (.int .u8 (f (4*k+2))):=(below_cell hB hb).trans (HZ.out _ (by omega))
   have c3:wr.cell? ⟨b0,off+(4*k+3),none⟩=some (.int .u8 (f (4*k+3))):=(below_cell hB hb).trans (HZ.out _ (by omega))
   have R0:=hid r0
   have R1:=hid r1
   have R2:=hid r2
   have HZZ:=hid hz
   have HB:=hid hB
   generalize f (4*k)=x0 at c0 EV
   generalize f (4*k+1)=x1 at c1 EV
   generalize f (4*k+2)=x2 at c2 EV
   generalize f (4*k+3)=x3 at c3 EV
   clear r0 r1 r2 hz hB
   have b1:(0:Int)≤(k:Int):=by omega
   have b2:(k:Int) < 16:=by omega
   have b2':(k:Int) < 64:=by omega
   obtain ⟨m0,hm0⟩:∃ m,m=4*k:=⟨_,rfl⟩
   rw [←hm0] at c0
   have v0:4*(k:Int)=(m0:Int):=by omega
   have w0:IntKind.i64.wrap (m0:Int)=(m0:Int):=i64_of _ (by omega) (by omega)
   have i0:(0:Int)≤(m0:Int):=by omega
   have j0:(m0:Int) < (len:Int):=by omega
   obtain ⟨m1,hm1⟩:∃ m,m=4*k+1:=⟨_,rfl⟩
   rw [←hm1] at c1
   have v1:4*(k:Int)+1=(m1:Int):=by omega
   have w1:IntKind.i64.wrap (m1:Int)=(m1:Int):=i64_of _ (by omega) (by omega)
   have i1:(0:Int)≤(m1:Int):=by omega
   have j1:(m1:Int) < (len:Int):=by omega
   obtain ⟨m2,hm2⟩:∃ m,m=4*k+2:=⟨_,rfl⟩
   rw [←hm2] at c2
   have v2:4*(k:Int)+2=(m2:Int):=by omega
   have w2:IntKind.i64.wrap (m2:Int)=(m2:Int):=i64_of _ (by omega) (by omega)
   have i2:(0:Int)≤(m2:Int):=by omega
   have j2:(m2:Int) < (len:Int):=by omega
   obtain ⟨m3,hm3⟩:∃ m,m=4*k+3:=⟨_,rfl⟩
   rw [←hm3] at c3
   have v3:4*(k:Int)+3=(m3:Int):=by omega
   have w3:IntKind.i64.wrap (m3:Int)=(m3:Int):=i64_of _ (by omega) (by omega)
   have i3:(0:Int)≤(m3:Int):=by omega
   have j3:(m3:Int) < (len:Int):=by omega
   have e1:(m0:Int)+1=(m1:Int):=by omega
   have e2:(m0:Int)+2=(m2:Int):=by omega
   have e3:(m0:Int)+3=(m3:Int):=by omega
   clear hm0 hm1 hm2 hm3
   go_wp2
   go_region_held3 (fun w'=>w'.cell? ⟨b0,off+m0,none⟩=some (.int .u8 x0)∧w'.cell? ⟨b0,off+m1,none⟩=some (.int .u8 x1)∧w'.cell? ⟨b0,off+m2,none⟩=some (.int .u8 x2)∧w'.cell? ⟨b0,off+m3,none⟩=some (.int .u8 x3))
    (refine ⟨?_,?_,?_,?_⟩<;>first | assumption | (rw [cell_sd (.inl (by omega))];assumption)) (fail)
   go_wp2
   go_roundw
   case rel =>
    refine ⟨k+1,by omega,by go_num,?_,?_,?_,?_,?_⟩
    ·exact (HB.out.setCell (by simp;omega) _).drew
    ·exact (size_sd _ _ _).trans HZZ.out
    ·exact (heap_set_other (by omega)).trans R0.out
    ·exact (heap_set_other (by omega)).trans R1.out
    ·refine (row_set R2.out k _).trans ?_
     rw [vs_set]
     exact congrArg (fun c=>some (Obj.cells c 168)) (upto_set (schW f) k _ EV.out.symm 64)
   case measure=>simp [intOf];omega
  ·have ek:k=16:=by omega
   subst ek
   clear hlt hk
   rw [show ((16:Nat):Int)=16 from rfl]
   go_wp2
   go_loopw [7] (fun i wr=>∃ t:Nat,16≤t∧t≤64∧i=.int .i64 t∧Below w.heap.size w wr∧wr.heap.size=w.heap.size+3∧wr.heap[w.heap.size]?=some (.cells (vs .u32 8 s) 146)∧wr.heap[w.heap.size+1]?=some (.cells (vs .u32 8 fun _=>0) 146)∧wr.heap[w.heap.size+1+1]?=some (.cells (vs .u32 64 fun j=>if j < t then schW f j else 0) 168)) (fun i _=>64 - (intOf i).toNat)
   case atStart=>exact ⟨16,by omega,by omega,rfl,hB,hz,r0,r1,r2⟩
   case round =>
    clear hB hz r0 r1 r2
    obtain ⟨t,ht,ht',rfl,hB,hz,r0,r1,r2⟩:=hrel
    by_cases hlt:t < 64
    ·have EV:=hid (schW_hi f t (by omega))
     have c2:=row_int r2 (t - 2) (by omega)
     have c7:=row_int r2 (t - 7) (by omega)
     have c15:=row_int r2 (t - 15) (by omega)
     have c16:=row_int r2 (t - 16) (by omega)
     rw [if_pos (by omega)] at c2 c7 c15 c16
     have d2:=schW_bd f (t - 2)
     have d7:=schW_bd f (t - 7)
     have d15:=schW_bd f (t - 15)
     have d16:=schW_bd f (t - 16)
     generalize schW f (t - 2)=y at c2 EV d2
     generalize schW f (t - 7)=u at c7 EV d7
     generalize schW f (t - 15)=x at c15 EV d15
     generalize schW f (t - 16)=r at c16 EV d16
     have cs:=row_int r2 t (by omega)
     have fs:=row_frozen r2 t
     obtain ⟨y1,y2⟩:=d2
     obtain ⟨s1,s2⟩:=d7
     obtain ⟨x1,x2⟩:=d15
     obtain ⟨r1',r2'⟩:=d16
     have R0:=hid r0
     have R1:=hid r1
     have R2:=hid r2
     have HZZ:=hid hz
     have HB:=hid hB
     clear r0 r1 r2 hz hB
     have i0:(0:Int)≤(t:Int):=by omega
     have j0:(t:Int) < 64:=by omega
     obtain ⟨m2,hm2⟩:∃ m,m=t - 2:=⟨_,rfl⟩
     rw [←hm2] at c2
     have v2:(t:Int) - 2=(m2:Int):=by omega
     have w2:IntKind.i64.wrap (m2:Int)=(m2:Int):=i64_of _ (by omega) (by omega)
     have i2:(0:Int)≤(m2:Int):=by omega
     have j2:(m2:Int) < 64:=by omega
     have n2:m2≠t:=by omega
     obtain ⟨m7,hm7⟩:∃ m,m=t - 7:=⟨_,rfl⟩
     rw [←hm7] at c7
     have v7:(t:Int) - 7=(m7:Int):=by omega
     have w7:IntKind.i64.wrap (m7:Int)=(m7:Int):=i64_of _ (by omega) (by omega)
     have i7:(0:Int)≤(m7:Int):=by omega
     have j7:(m7:Int) < 64:=by omega
     have n7:m7≠t:=by omega
     obtain ⟨m15,hm15⟩:∃ m,m=t - 15:=⟨_,rfl⟩
     rw [←hm15] at c15
     have v15:(t:Int) - 15=(m15:Int):=by omega
     have w15:IntKind.i64.wrap (m15:Int)=(m15:Int):=i64_of _ (by omega) (by omega)
     have i15:(0:Int)≤(m15:Int):=by omega
     have j15:(m15:Int) < 64:=by omega
     have n15:m15≠t:=by omega
     obtain ⟨m16,hm16⟩:∃ m,m=t - 16:=⟨_,rfl⟩
     rw [←hm16] at c16
     have v16:(t:Int) - 16=(m16:Int):=by omega
     have w16:IntKind.i64.wrap (m16:Int)=(m16:Int):=i64_of _ (by omega) (by omega)
     have i16:(0:Int)≤(m16:Int):=by omega
     have j16:(m16:Int) < 64:=by omega
     have n16:m16≠t:=by omega
     clear hm2 hm7 hm15 hm16
     go_wp2
     go_region_held3 (fun w'=>w'.cell? ⟨w.heap.size+1+1,m7,none⟩=some (.int .u32 u)∧w'.cell? ⟨w.heap.size+1+1,m16,none⟩=some (.int .u32 r))
      (exact ⟨by first | exact c7 | exact (cell_sd (.inr n7)).trans c7,by first | exact c16 | exact (cell_sd (.inr n16)).trans c16⟩) ((go_at_call 116;refine (rot_any _ _ _ (by omega) (by omega) (by decide)).mono ?_;rintro e w' ⟨rfl,rfl⟩))
     go_wp2
     go_roundw
     case rel =>
      refine ⟨t+1,by omega,by omega,by go_num,?_,?_,?_,?_,?_⟩
      ·exact (HB.out.setCell (by simp;omega) _).drew
      ·exact (size_sd _ _ _).trans HZZ.out
      ·exact (heap_set_other (by omega)).trans R0.out
      ·exact (heap_set_other (by omega)).trans R1.out
      ·refine (row_set R2.out t _).trans ?_
       rw [vs_set]
       exact congrArg (fun c=>some (Obj.cells c 168)) (upto_set (schW f) t _ EV.out.symm 64)
     case measure=>simp [intOf];omega
    ·have et:t=64:=by omega
     subst et
     have ev:vs .u32 64 (fun j=>if j < 64 then schW f j else 0)=vs .u32 64 (schW f):=vs_congr fun i hi=>by rw [if_pos hi]
     rw [ev] at r2
     rw [show ((64:Nat):Int)=64 from rfl]
     have R0:=hid r0
     have R1:=hid r1
     have R2:=hid r2
     have HZZ:=hid hz
     have HB:=hid hB
     have c0:=row_int r0 0 (by omega)
     have c1:=row_int r0 1 (by omega)
     have c2:=row_int r0 2 (by omega)
     have c3:=row_int r0 3 (by omega)
     have c4:=row_int r0 4 (by omega)
     have c5:=row_int r0 5 (by omega)
     have c6:=row_int r0 6 (by omega)
     have c7:=row_int r0 7 (by omega)
     clear r0 r1 r2 hz hB ev ht ht' hlt
     go_wp2
     go_region_held3 (fun w'=>w'.cell? ⟨w.heap.size,0,none⟩=some (.int .u32 (s 0))∧w'.cell? ⟨w.heap.size,1,none⟩=some (.int .u32 (s 1))∧w'.cell? ⟨w.heap.size,2,none⟩=some (.int .u32 (s 2))∧w'.cell? ⟨w.heap.size,3,none⟩=some (.int .u32 (s 3))∧w'.cell? ⟨w.heap.size,4,none⟩=some (.int .u32 (s 4))∧w'.cell? ⟨w.heap.size,5,none⟩=some (.int .u32 (s 5))∧w'.cell? ⟨w.heap.size,6,none⟩=some (.int .u32 (s 6))∧w'.cell? ⟨w.heap.size,7,none⟩=some (.int .u32 (s 7))) (exact ⟨c0,c1,c2,c3,c4,c5,c6,c7⟩) (fail)
     go_wp2
     go_loopw [10,11,12,13,14,15,16,17,18] (fun vla vlb vlc vld vle vlf vlg vlh vt wr=>∃ n:Nat,n≤64∧vt=.int .i64 n∧vla=.int .u32 (rnd K (schW f) s n 0)∧vlb=.int .u32 (rnd K (schW f) s n 1)∧vlc=.int .u32 (rnd K (schW f) s n 2)∧vld=.int .u32 (rnd K (schW f) s n 3)∧vle=.int .u32 (rnd K (schW f) s n 4)∧vlf=.int .u32 (rnd K (schW f) s n 5)∧vlg=.int .u32 (rnd K (schW f) s n 6)∧vlh=.int .u32 (rnd K (schW f) s n 7)∧Below w.heap.size w wr∧wr.heap.size=w.heap.size+3∧wr.heap[w.heap.size]?=some (.cells (vs .u32 8 s) 146)∧wr.heap[w.heap.size+1]?=some (.cells (vs .u32 8 fun _=>0) 146)∧wr.heap[w.heap.size+1+1]?=some (.cells (vs .u32 64 (schW f)) 168)) (fun _ _ _ _ _ _ _ _ vt _=>64 - (intOf vt).toNat)
     case atStart=>exact ⟨0,by omega,rfl,rfl,rfl,rfl,rfl,rfl,rfl,rfl,rfl,HB.out.drew,HZZ.out,R0.out,R1.out,R2.out⟩
     case round =>
      clear HB HZZ R0 R1 R2 c0 c1 c2 c3 c4 c5 c6 c7
      obtain ⟨n,hn,rfl,rfl,rfl,rfl,rfl,rfl,rfl,rfl,rfl,hB,hz,r0,r1,r2⟩:=hrel
      by_cases hlt:n < 64
      ·have ck:=(HKK.out.below hB).2 n hlt
       have cs:=row_int r2 n hlt
       have R:=hid (And.intro hB (And.intro hz (And.intro r0 (And.intro r1 r2))))
       clear hB hz r0 r1 r2
       obtain ⟨b0,b0'⟩:=rnd_bd K (schW f) s HSS.out n 0 (by omega)
       obtain ⟨la,e0⟩:∃ x,rnd K (schW f) s n 0=x:=⟨_,rfl⟩
       rw [e0] at b0 b0'
       rw [e0]
       obtain ⟨b1,b1'⟩:=rnd_bd K (schW f) s HSS.out n 1 (by omega)
       obtain ⟨lb,e1⟩:∃ x,rnd K (schW f) s n 1=x:=⟨_,rfl⟩
       rw [e1] at b1 b1'
       rw [e1]
       obtain ⟨b2,b2'⟩:=rnd_bd K (schW f) s HSS.out n 2 (by omega)
       obtain ⟨lc,e2⟩:∃ x,rnd K (schW f) s n 2=x:=⟨_,rfl⟩
       rw [e2] at b2 b2'
       rw [e2]
       obtain ⟨b3,b3'⟩:=rnd_bd K (schW f) s HSS.out n 3 (by omega)
       obtain ⟨ld,e3⟩:∃ x,rnd K (schW f) s n 3=x:=⟨_,rfl⟩
       rw [e3] at b3 b3'
       rw [e3]
       obtain ⟨b4,b4'⟩:=rnd_bd K (schW f) s HSS.out n 4 (by omega)
       obtain ⟨le,e4⟩:∃ x,rnd K (schW f) s n 4=x:=⟨_,rfl⟩
       rw [e4] at b4 b4'
       rw [e4]
       obtain ⟨b5,b5'⟩:=rnd_bd K (schW f) s HSS.out n 5 (by omega)
       obtain ⟨lf,e5⟩:∃ x,rnd K (schW f) s n 5=x:=⟨_,rfl⟩
       rw [e5] at b5 b5'
       rw [e5]
       obtain ⟨b6,b6'⟩:=rnd_bd K (schW f) s HSS.out n 6 (by omega)
       obtain ⟨lg,e6⟩:∃ x,rnd K (schW f) s n 6=x:=⟨_,rfl⟩
       rw [e6] at b6 b6'
       rw [e6]
       obtain ⟨b7,b7'⟩:=rnd_bd K (schW f) s HSS.out n 7 (by omega)
       obtain ⟨lh,e7⟩:∃ x,rnd K (schW f) s n 7=x:=⟨_,rfl⟩
       rw [e7] at b7 b7'
       rw [e7]
       have EE:=hid (And.intro e0 (And.intro e1 (And.intro e2 (And.intro e3 (And.intro e4 (And.intro e5 (And.intro e6 e7)))))))
       clear e0 e1 e2 e3 e4 e5 e6 e7
       obtain ⟨S,eS⟩:∃ x,schW f n=x:=⟨_,rfl⟩
       rw [eS] at cs
       obtain ⟨k0,ek⟩:∃ x,K n=x:=⟨_,rfl⟩
       rw [ek] at ck
       have ES:=hid eS
       have EK:=hid ek
       clear eS ek
       have i0:(0:Int)≤(n:Int):=by omega
       have j0:(n:Int) < 64:=by omega
       go_wp2
       go_region_held3 (fun w'=>w'.cell? ⟨1,n,none⟩=some (.int .u32 k0)∧w'.cell? ⟨w.heap.size+1+1,n,none⟩=some (.int .u32 S)) (exact ⟨ck,cs⟩) ((go_at_call 116;refine (rot_any _ _ _ (by omega) (by omega) (by decide)).mono ?_;rintro e w' ⟨rfl,rfl⟩))
       go_upto_region 17 with fail
       generalize hT:IntKind.u32.wrap (IntKind.u32.wrap (IntKind.u32.wrap (IntKind.u32.wrap (lh+bits .xor .u32 (bits .xor .u32 (rt 6 le) (rt 11 le)) (rt 25 le))+bits .xor .u32 (bits .and .u32 le lf) (bits .and .u32 (bits .xor .u32 IntKind.u32.max le) lg))+k0)+S)=T1
       have ET:T1=one le lf lg lh k0 S:=by rw [←hT];simp only [IntKind.wrap_u32'];rfl
       have T10:0≤T1∧T1 < 4294967296:=by rw [ET];unfold one;omega
       have HT:=hid ET
       clear hT ET
       obtain ⟨T10,T11⟩:=T10
       go_upto_region 18 with (go_at_call 116;refine (rot_any _ _ _ (by omega) (by omega) (by decide)).mono ?_;rintro e w' ⟨rfl,rfl⟩)
       generalize hU:(bits .xor .u32 (bits .xor .u32 (rt 2 la) (rt 13 la)) (rt 22 la)+bits .xor .u32 (bits .xor .u32 (bits .and .u32 la lb) (bits .and .u32 la lc)) (bits .and .u32 lb lc)) % 4294967296=T2
       have EU:T2=two la lb lc:=by rw [←hU];rfl
       have T20:0≤T2∧T2 < 4294967296:=by rw [EU];unfold two;omega
       have HU:=hid EU
       clear hU EU
       obtain ⟨T20,T21⟩:=T20
       go_wp2
       go_roundw
       case rel =>
        obtain ⟨f0,f1,f2,f3,f4,f5,f6,f7⟩:=EE.out
        obtain ⟨hB,hz,r0,r1,r2⟩:=R.out
        refine ⟨n+1,by omega,by go_num,?_,?_,?_,?_,?_,?_,?_,?_,hB.drew,hz,r0,r1,r2⟩
        ·rw [rnd_0,f0,f1,f2,f4,f5,f6,f7,ES.out,EK.out,newA,←HT.out,←HU.out]
        ·rw [rnd_1,f0]
        ·rw [rnd_2,f1]
        ·rw [rnd_3,f2]
        ·rw [rnd_4,f3,f4,f5,f6,f7,ES.out,EK.out,newE,←HT.out]
        ·rw [rnd_5,f4]
        ·rw [rnd_6,f5]
        ·rw [rnd_7,f6]
       case measure=>simp [intOf];omega
      ·have en:n=64:=by omega
       subst en
       rw [show ((64:Nat):Int)=64 from rfl]
       have c0:=row_int r0 0 (by omega)
       have x0:=row_int r1 0 (by omega)
       have y0:=row_frozen r1 0
       obtain ⟨d0,d0'⟩:=HSS.out 0 (by omega)
       obtain ⟨b0,b0'⟩:=rnd_bd K (schW f) s HSS.out 64 0 (by omega)
       have c1:=row_int r0 1 (by omega)
       have x1:=row_int r1 1 (by omega)
       have y1:=row_frozen r1 1
       obtain ⟨d1,d1'⟩:=HSS.out 1 (by omega)
       obtain ⟨b1,b1'⟩:=rnd_bd K (schW f) s HSS.out 64 1 (by omega)
       have c2:=row_int r0 2 (by omega)
       have x2:=row_int r1 2 (by omega)
       have y2:=row_frozen r1 2
       obtain ⟨d2,d2'⟩:=HSS.out 2 (by omega)
       obtain ⟨b2,b2'⟩:=rnd_bd K (schW f) s HSS.out 64 2 (by omega)
       have c3:=row_int r0 3 (by omega)
       have x3:=row_int r1 3 (by omega)
       have y3:=row_frozen r1 3
       obtain ⟨d3,d3'⟩:=HSS.out 3 (by omega)
       obtain ⟨b3,b3'⟩:=rnd_bd K (schW f) s HSS.out 64 3 (by omega)
       have c4:=row_int r0 4 (by omega)
       have x4:=row_int r1 4 (by omega)
       have y4:=row_frozen r1 4
       obtain ⟨d4,d4'⟩:=HSS.out 4 (by omega)
       obtain ⟨b4,b4'⟩:=rnd_bd K (schW f) s HSS.out 64 4 (by omega)
       have c5:=row_int r0 5 (by omega)
       have x5:=row_int r1 5 (by omega)
       have y5:=row_frozen r1 5
       obtain ⟨d5,d5'⟩:=HSS.out 5 (by omega)
       obtain ⟨b5,b5'⟩:=rnd_bd K (schW f) s HSS.out 64 5 (by omega)
       have c6:=row_int r0 6 (by omega)
       have x6:=row_int r1 6 (by omega)
       have y6:=row_frozen r1 6
       obtain ⟨d6,d6'⟩:=HSS.out 6 (by omega)
       obtain ⟨b6,b6'⟩:=rnd_bd K (schW f) s HSS.out 64 6 (by omega)
       have c7:=row_int r0 7 (by omega)
       have x7:=row_int r1 7 (by omega)
       have y7:=row_frozen r1 7
       obtain ⟨d7,d7'⟩:=HSS.out 7 (by omega)
       obtain ⟨b7,b7'⟩:=rnd_bd K (schW f) s HSS.out 64 7 (by omega)
       have R1:=hid r1
       have HB:=hid hB
       clear r0 r1 r2 hz hB hn hlt
       go_wp2
       refine ret_row8n 4 (w.heap.size+1) (fun _=>0) (comp K f s) _ _ _ _ _ _ _ _ ?_ ?_ ?_ R1.out rfl rfl rfl rfl rfl rfl rfl rfl ⟨rfl,?_⟩
       ·kernel_rfl
       ·kernel_rfl
       ·kernel_rfl
       ·have hq:w.heap.size≤w.heap.size+1:=by omega
        exact Below.setCell (Below.setCell (Below.setCell (Below.setCell (Below.setCell (Below.setCell (Below.setCell (Below.setCell HB.out hq _) hq _) hq _) hq _) hq _) hq _) hq _) hq _
end Go.Proofs.YtfgmddnfhphdeaaGreatDoor
