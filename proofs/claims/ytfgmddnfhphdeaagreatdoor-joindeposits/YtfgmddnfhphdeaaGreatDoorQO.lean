/- A part. -/
import Derived.Test.YtfgmddnfhphdeaaGreatDoorQM
import Derived.Test.YtfgmddnfhphdeaaGreatDoorJnB
import Derived.Test.YtfgmddnfhphdeaaGreatDoorSgP
import Derived.Test.YtfgmddnfhphdeaaGreatDoorQN
import Derived.Test.YtfgmddnfhphdeaaGreatDoorQJ
import Derived.Test.YtfgmddnfhphdeaaGreatDoorQK
import Derived.Test.YtfgmddnfhphdeaaGreatDoorQH
import Derived.BigRegion
import Derived.Deep.QuietTactic
import Derived.BigQuiet
namespace Go.Proofs.YtfgmddnfhphdeaaGreatDoor
open Go.RowKit
set_option linter.unusedVariables false
set_option linter.unusedSimpArgs false
section
open Go.RowKit
set_option linter.unusedVariables false
set_option linter.unusedSimpArgs false
set_option maxRecDepth 20000
theorem yields_eqY {ops : Array Oper} {S : World → Prop} {op : Oper} {a : Act} (hw : Region.wanted op (yielded ops a.tmps) = true) (x y : Operand) (rt : TypeId) (ho : op.op = .binOp .eql 44 x y rt) (c d : Nat → Int)
    (hx:a.eval x=.agg (vs .u8 48 c)) (hy:a.eval y=.agg (vs .u8 48 d)):YieldsIf Tryz.prog ops S op (.bool (eqY c d)) a :=
 .inl ⟨hw,fun w _=>by
  have h:(Op.equalIn Op.maxDepth 44 (.agg (vs .u8 48 c)) (.agg (vs .u8 48 d))).run Tryz.prog w=.ok (eqY c d) w:=eq48g w c d
  unfold execOp
  simp [ho,hx,hy,eqGuard,binOp,Op.equal,h]⟩
theorem ixN_i (w:World) (b len cap i:Nat) (h:i < len):(ixU (.slice (some ⟨b,0,none⟩) len cap) (.int .i64 i)).run Tryz.prog w=.ok (.pointer (some ⟨b,i,none⟩)) w:=by
 have:=ixU_run w b 0 len cap i h
 rw [Nat.zero_add] at this
 exact this
theorem msV_bd {d:VDepositData} (hd:OkDepositData d) (j:Nat) (hj:j < 32):0≤msV d j∧msV d j < 256 :=
 tvV_bd (msF_bd hd.2.1 (fun j hj=>tvV_bd (fun j _=>pk_in hd.1 j) j hj)) j hj
theorem retVa {fn : Func} {R : Ending → World → Prop} {a : Act} {w' : World} (t : Tmp) (b : Nat) (c : VValidator) (ty : TypeId) (h : fn.results = #[.cell t 74]) (hd : a.defers = []) (ht : a.tmps.getD t undef = .pointer (some ⟨b, 0, none⟩)) (hr : w'.heap[b]? = some (.cells (cel (sValidator c)) ty))
    (hR:R (.returned (.agg (cel (sValidator c)))) w'):bodyPost Tryz.prog fn R .ret a w':=by
 refine bodyPost_ret ?_ hd hR
 have hl:=loadAt_var (load_row (P:=Tryz.prog) hr 74 _ Tryz.underlying74 rfl (by rw [cel_size,show slen (sValidator c)=86 from rfl];kernel_rfl))
 rw [Array.getD_eq_getD_getElem?] at ht
 simp [results,h,ht,hl,asAddr]
def bdVa (ps:Array (Nat × Value)):Sem Value:=Instr.build 74 ps
theorem bdVa_eq (ps:Array (Nat × Value)):Instr.build 74 ps=bdVa ps:=rfl
theorem bdVa_run (W:World) (k c:Nat→Int) (n:Int):(bdVa #[(0,.agg (vs .u8 48 k)),(1,.agg (vs .u8 32 c)),(2,.int .u64 n),(4,.int .u64 18446744073709551615),(5,.int .u64 18446744073709551615),(6,.int .u64 18446744073709551615),(7,.int .u64 18446744073709551615)]).run Tryz.prog W=.ok (.agg (cel (sValidator ⟨k,c,n,false,far,far,far,far⟩))) W:=by kernel_rfl
attribute [local go_sem ↓] lvState_eq lvKy_eq ixValidator_eq
set_option maxHeartbeats 4000000 in
theorem own_any (x : VState) (K0 : Nat → Int) (w : World) (hw : InW w x) (hn : x.f11.n ≤ 65536) :
    Calls Tryz.prog 54 #[.agg (cel (sState x)),.agg (vs .u8 48 K0)] w fun e' w'=>e'=.returned (.tuple #[.int .i64 ((if owN x.f11.z K0 x.f11.n < x.f11.n then owN x.f11.z K0 x.f11.n else 0:Nat):Int),.bool (decide (owN x.f11.z K0 x.f11.n < x.f11.n))])∧Below w.heap.size w w':=by
 obtain ⟨W0,hW0⟩:∃ W,(w.alloc (.cells (cel (sState x)) 49)).alloc (.cells (vs .u8 48 K0) 44)=W:=⟨_,rfl⟩
 have r0:W0.heap[w.heap.size]?=some (.cells (cel (sState x)) 49):=by rw [←hW0];exact (heap_old (by simp)).trans (heap_new rfl)
 have r1:W0.heap[w.heap.size+1]?=some (.cells (vs .u8 48 K0) 44):=by rw [←hW0];exact heap_new (by simp)
 have hB0:Below w.heap.size w W0:=by rw [←hW0];exact ((Below.refl _ _).alloc (Nat.le_refl _) _).alloc (by simp) _
 have z0:w.heap.size < W0.heap.size:=some_ltK r0
 have z1:w.heap.size+1 < W0.heap.size:=some_ltK r1
 have hcs:∀ W:World,Below W0.heap.size W0 W→W.cell? ⟨w.heap.size,721,none⟩=some (.slice x.f11.a x.f11.n x.f11.c):=fun W h=>cS11 ((h.block _ z0).trans r0)
 have hkq:∀ W:World,Below W0.heap.size W0 W→(lvKy ⟨w.heap.size+1,0,none⟩).run Tryz.prog W=.ok (.agg (vs .u8 48 K0)) W:=fun W h=>lvKy_run ((h.block _ z1).trans r1)
 have hel:=(hw.below hB0).i11
 have c0:=hcs W0 (Below.refl _ _)
 have HB:=hid hB0
 have HW:=hid hW0
 have HCS:=hid hcs
 have HKQ:=hid hkq
 have HEL:=hid hel
 clear hB0 hW0 r0 r1 hcs hkq hel hw
 generalize x.f11.a=A at *
 generalize x.f11.n=n at *
 generalize x.f11.c=C at *
 generalize x.f11.z=z at *
 obtain ⟨IV,eI⟩:∃ i:Int,((if owN z K0 n < n then owN z K0 n else 0:Nat):Int)=i:=⟨_,rfl⟩
 obtain ⟨BV,eB⟩:∃ i,decide (owN z K0 n < n)=i:=⟨_,rfl⟩
 rw [eI,eB]
 have HEI:=hid eI
 have HEB:=hid eB
 clear eI eB
 go_enter Tryz.func54,Tryz.ntmps54
 go_upto_region 1 with fail
 rw [HW.out]
 clear HW
 go_wp2
 go_loopw [10] (fun i wr=>∃ k:Nat,k≤n∧i=.int .i64 k∧(∀ j,j < k→eqY (z j).f0 K0=false)∧Below W0.heap.size W0 wr) (fun i _=>n - (intOf i).toNat)
 case atStart=>exact ⟨0,by omega,rfl,fun j hj=>absurd hj (Nat.not_lt_zero _),Below.refl _ _⟩
 case round =>
  obtain ⟨k,hk,rfl,hg,hb⟩:=hrel
  by_cases hlt:k < n
  ·have k1:(k:Int) < (n:Int):=by omega
   have k2:IntKind.i64.wrap ((k:Int)+1)=(k:Int)+1:=by rw [IntKind.wrap_i64];omega
   rcases HEL.out with h0 | ⟨b,off,ea,hbl,hc⟩
   ·omega
   subst ea
   have hla:∀ W,Below W0.heap.size W0 W→(lvKy ⟨b,off+86*k,none⟩).run Tryz.prog W=.ok (.agg (vs .u8 48 (z k).f0)) W:=fun W h=>lvKy_mid fun j hj=>(below_cell h hbl).trans (val_key (hc k hlt) j hj)
   have hix:=fun W=>ixValidator_run W b off n C k hlt
   have hst:∀ j,j < k+1→eqY (z k).f0 K0=false→eqY (z j).f0 K0=false:=fun j hj h=>by
    by_cases e:j=k
    ·rw [e];exact h
    ·exact hg j (by omega)
   have hfo:eqY (z k).f0 K0=true→owN z K0 n=k:=fun h=>owN_at z K0 k hg h n hlt
   obtain ⟨P,eP⟩:∃ P,off+86*k=P:=⟨_,rfl⟩
   rw [eP] at hla
   simp only [eP] at hix
   obtain ⟨R,eR⟩:∃ R,(z k).f0=R:=⟨_,rfl⟩
   rw [eR] at hla hst hfo
   have HIX:=hid hix
   have HLA:=hid hla
   have HST:=hid hst
   have HFO:=hid hfo
   have HDR:=hid hb.drew
   clear hix hla hst hfo hg hb hc hbl eR eP
   cases he:eqY R K0
   ·have HEQ:=hid he
    go_upto_region 4 with fail
    refine wp_region_noPanic ?_
    refine wp_region_held_drew (S:=fun W=>Below W0.heap.size W0 W) (by kernel_rfl) (HDR.out) (fun hHeld=>?_)
    refine tk 0 (v:=?v101) ?y101 hHeld ?r101
    case y101=>intro w hSw;go_simp;try with_reducible rfl
    refine tk 1 (v:=?v102) ?y102 hHeld ?r102
    case y102=>intro w hSw;have ld0:=HCS.out w hSw;go_simp;try with_reducible rfl
    refine tk 2 (v:=?v103) ?y103 hHeld ?r103
    case y103=>intro w hSw;go_simp;try with_reducible rfl
    refine tk 3 (v:=?v104) ?y104 hHeld ?r104
    case y104=>intro w hSw;have ld0:=HIX.out w;go_simp;try with_reducible rfl
    refine tk 4 (v:=?v105) ?y105 hHeld ?r105
    case y105=>intro w hSw;go_simp;try with_reducible rfl
    refine tk 5 (v:=?v106) ?y106 hHeld ?r106
    case y106=>intro w hSw;have ld0:=HLA.out w hSw;go_simp;try with_reducible rfl
    refine tk 6 (v:=?v107) ?y107 hHeld ?r107
    case y107=>intro w hSw;have ld0:=HKQ.out w hSw;go_simp;try with_reducible rfl
    try simp only [Act.put,z_1,z_2,z_3,z_4,z_5,z_6,z_7]
    refine wpAnyH_take (i:=7) rfl (by kernel_rfl) (by kernel_rfl) (by kernel_rfl) (fun _ _ _ h=>h) (yields_eqY (by rfl) _ _ _ rfl R K0 rfl rfl) hHeld ?_
    rw [HEQ.out]
    try simp only [Act.put,z_1,z_2,z_3,z_4,z_5,z_6,z_7]
    refine wpAnyH_done (by kernel_rfl) ?_ _
    refine NoPanic.normal ?_
    go_wp2
    go_roundw
    case rel=>exact ⟨k+1,by omega,by go_num,fun j hj=>HST.out j hj HEQ.out,HDR.out⟩
    case measure=>simp [intOf];omega
   ·have HEQ:=hid he
    have hF:=HFO.out he
    obtain rfl:(k:Int)=IV:=by rw [←HEI.out,hF,if_pos hlt]
    obtain rfl:true=BV:=by rw [←HEB.out,hF,decide_eq_true hlt]
    go_upto_region 4 with fail
    refine wp_region_noPanic ?_
    refine wp_region_held_drew (S:=fun W=>Below W0.heap.size W0 W) (by kernel_rfl) (HDR.out) (fun hHeld=>?_)
    refine tk 0 (v:=?v108) ?y108 hHeld ?r108
    case y108=>intro w hSw;go_simp;try with_reducible rfl
    refine tk 1 (v:=?v109) ?y109 hHeld ?r109
    case y109=>intro w hSw;have ld0:=HCS.out w hSw;go_simp;try with_reducible rfl
    refine tk 2 (v:=?v110) ?y110 hHeld ?r110
    case y110=>intro w hSw;go_simp;try with_reducible rfl
    refine tk 3 (v:=?v111) ?y111 hHeld ?r111
    case y111=>intro w hSw;have ld0:=HIX.out w;go_simp;try with_reducible rfl
    refine tk 4 (v:=?v112) ?y112 hHeld ?r112
    case y112=>intro w hSw;go_simp;try with_reducible rfl
    refine tk 5 (v:=?v113) ?y113 hHeld ?r113
    case y113=>intro w hSw;have ld0:=HLA.out w hSw;go_simp;try with_reducible rfl
    refine tk 6 (v:=?v114) ?y114 hHeld ?r114
    case y114=>intro w hSw;have ld0:=HKQ.out w hSw;go_simp;try with_reducible rfl
    try simp only [Act.put,z_1,z_2,z_3,z_4,z_5,z_6,z_7]
    refine wpAnyH_take (i:=7) rfl (by kernel_rfl) (by kernel_rfl) (by kernel_rfl) (fun _ _ _ h=>h) (yields_eqY (by rfl) _ _ _ rfl R K0 rfl rfl) hHeld ?_
    rw [HEQ.out]
    try simp only [Act.put,z_1,z_2,z_3,z_4,z_5,z_6,z_7]
    refine wpAnyH_done (by kernel_rfl) ?_ _
    refine NoPanic.normal ?_
    go_wp2
    go_ret2
    exact ⟨rfl,HB.out.trans (HDR.out.mono HB.out.size)⟩
  ·obtain rfl:k=n:=by omega
   have hF:=owN_none z K0 k hg
   obtain rfl:0=IV:=by rw [←HEI.out,hF,if_neg (Nat.lt_irrefl k)];rfl
   obtain rfl:false=BV:=by rw [←HEB.out,hF,decide_eq_false (Nat.lt_irrefl k)]
   have HBB:=hid hb
   clear hg hb
   go_wp2
   go_ret2
   exact ⟨rfl,HB.out.trans (HBB.out.mono HB.out.size)⟩
attribute [local go_sem ↓] ixU_eq
def tpE (n:Int):Int:=if 144115188075855872 < n then 2 else 0
def tpS (X:VState) (i:Nat) (n:Int):VState:=if 144115188075855872 < n then X else balS X i (w64 (X.f12.z i+n))
theorem kpl_set {y g i : Nat} {V : World} {C : Array Value} {v : Value} (hrow : V.heap[g]? = some (.cells C 22)) : KpL y V (V.setCell ⟨g, i, none⟩ v) := fun k C' t hk h1 h2 h3 hy => (heap_set_other (fun e => by
    subst e
    rw [hrow] at hk
    injection hk with q
    injection q with _ q2
    exact h2 q2)).trans hk
set_option maxHeartbeats 4000000 in
theorem topUp_any (X : VState) (i y : Nat) (n : Int) (w V : World) (hb : BK w y V X) (hi : i < X.f12.n) :
    Calls Tryz.prog 55 #[.pointer (some ⟨y,0,none⟩),.int .i64 i,.int .u64 n] V fun e' V'=>e'=.returned (.int .i64 (tpE n))∧BK w y V' (tpS X i n)∧KpL y V V':=by
 by_cases hn:144115188075855872 < n
 ·unfold tpE tpS
  rw [if_pos hn,if_pos hn]
  have HB:=hid hb
  clear hb
  go_enter Tryz.func55,Tryz.ntmps55
  go_wp2
  go_ret
  exact ⟨rfl,HB.out,KpL.of (Below.refl _ _)⟩
 ·unfold tpE tpS
  rw [if_neg hn,if_neg hn]
  obtain ⟨g,hg⟩:=own_some hb.cpd.o12 (by omega)
  have hbl:=hb.bl12 hg
  obtain ⟨C,hrow⟩:=hbl.row
  have c0:=hbl.c12
  have cg:=hbl.at_ i hi
  have fg:=row_frozen hrow i
  have hix:=fun W=>ixN_i W g X.f12.n X.f12.c i hi
  have HB:=hid (hb.bal (w64 (X.f12.z i+n)) hg hi)
  have kw:IntKind.u64.wrap (X.f12.z i+n)=w64 (X.f12.z i+n):=rfl
  have HKL:=hid (kpl_set (y:=y) (i:=i) (v:=.int .u64 (w64 (X.f12.z i+n))) hrow)
  clear hb hbl hrow hg
  go_enter Tryz.func55,Tryz.ntmps55
  go_wp2
  go_ret
  exact ⟨rfl,HB.out,HKL.out⟩
attribute [local go_sem ↓] lvDd_eq lv24_eq sv24_eq lvSg_eq bsK_eq svValidator_eq bdVa_eq
set_option maxHeartbeats 4000000 in
theorem newc_any (d : VDepositData) (w : World) (hd : OkDepositData d) :
    Calls Tryz.prog 92 #[.agg (cel (sDepositData d))] w fun e' w'=>e'=.returned (.agg (cel (sValidator (nvV d))))∧Below w.heap.size w w':=by
 obtain ⟨W0,hW0⟩:∃ W,(w.alloc (.cells (cel (sDepositData d)) 58)).alloc (.cells (cel (sValidator oValidator)) 74)=W:=⟨_,rfl⟩
 have r0:W0.heap[w.heap.size]?=some (.cells (cel (sDepositData d)) 58):=by rw [←hW0];exact (heap_old (by simp)).trans (heap_new rfl)
 have r1:W0.heap[w.heap.size+1]?=some (.cells (cel (sValidator oValidator)) 74):=by rw [←hW0];exact heap_new (by simp)
 have hB0:Below w.heap.size w W0:=by rw [←hW0];exact ((Below.refl _ _).alloc (Nat.le_refl _) _).alloc (by simp) _
 have c2:=cD2 r0
 have lk:(lvKy ⟨w.heap.size,0,none⟩).run Tryz.prog W0=.ok (.agg (vs .u8 48 d.f0)) W0:=lvKy_mid fun j hj=>by rw [Nat.zero_add];exact cD0 r0 j hj
 have lc:(lv24 ⟨w.heap.size,48,none⟩).run Tryz.prog W0=.ok (.agg (vs .u8 32 d.f1)) W0:=lv24_mid fun j hj=>cD1 r0 j hj
 have sv:=svValidator_run r1 (nvV d)
 have n0:=hd.2.2.1.1
 have n1:=hd.2.2.1.2
 have bv:=bdVa_run W0 d.f0 d.f1 (efV d.f2)
 have env:(⟨d.f0,d.f1,efV d.f2,false,far,far,far,far⟩:VValidator)=nvV d:=rfl
 rw [env] at bv
 obtain ⟨NV,eNV⟩:∃ v,nvV d=v:=⟨_,rfl⟩
 rw [eNV] at sv bv ⊢
 have hmod:d.f2.tmod 1000000000=d.f2 % 1000000000:=Int.tmod_eq_emod_of_nonneg n0
 have k1:IntKind.u64.wrap (d.f2 % 1000000000)=d.f2 % 1000000000:=by rw [IntKind.wrap_u64];omega
 have k2:IntKind.u64.wrap (d.f2 - d.f2 % 1000000000)=d.f2 - d.f2 % 1000000000:=by rw [IntKind.wrap_u64];omega
 have zv:=zeroValidator
 have HB:=hid hB0
 have HW:=hid hW0
 have R1:=hid r1
 have ef:efV d.f2=min 32000000000 (d.f2 - d.f2 % 1000000000):=rfl
 rw [ef] at bv
 clear hB0 hW0 r0 r1 env eNV ef
 generalize d.f2=n at *
 go_enter Tryz.func92,Tryz.ntmps92
 go_upto_region 1 with fail
 rw [HW.out]
 clear HW
 go_wp2
 exact retVa 2 (w.heap.size+1) NV 74 rfl rfl rfl (setRow_at R1.out) ⟨rfl,below_row HB.out (by omega) _⟩
theorem dd_cel (d:VDepositData):cel (sDepositData d)=(celL [.by 48 d.f0,.by 32 d.f1,.nu d.f2]++(bl d.f3 96++[])).toArray:=by kernel_rfl
theorem dd_sig {w:World} {g:Nat} {t:TypeId} {d:VDepositData} (h:w.heap[g]?=some (.cells (cel (sDepositData d)) t)):(lvSg ⟨g,81,none⟩).run Tryz.prog w=.ok (.agg (vs .u8 96 d.f3)) w:=by
 have:=ranged (a:=celL [.by 48 d.f0,.by 32 d.f1,.nu d.f2]) (b:=[]) h _ (dd_cel d)
 rw [celL_len,show slen [Seg.by 48 d.f0,.by 32 d.f1,.nu d.f2]=81 from rfl] at this
 exact lvSg_in this
set_option maxHeartbeats 4000000 in
theorem dq_any (d : VDepositData) (w : World) (hd : OkDepositData d) (hS : Sh w) :
    Calls Tryz.prog 56 #[.agg (cel (sDepositData d))] w fun e' w'=>e'=.returned (.agg (vs .u8 32 (dpQ d)))∧Below w.heap.size w w':=by
 obtain ⟨W0,hW0⟩:∃ W,(w.alloc (.cells (cel (sDepositData d)) 58)).alloc (.cells (vs .u8 32 fun _=>0) 24)=W:=⟨_,rfl⟩
 have r0:W0.heap[w.heap.size]?=some (.cells (cel (sDepositData d)) 58):=by rw [←hW0];exact (heap_old (by simp)).trans (heap_new rfl)
 have r1:W0.heap[w.heap.size+1]?=some (.cells (vs .u8 32 fun _=>0) 24):=by rw [←hW0];exact heap_new (by simp)
 have hB0:Up w W0:=by rw [←hW0];exact ((Below.refl _ _).alloc (Nat.le_refl _) _).alloc (by simp) _
 have hme:=msg_prog d W0 hd (hS.below hB0)
 have hde:=fun (W:World) (h:Up w W)=>dep_prog W (hS.below h)
 have hro:=fun (W:World) (h:Up w W)=>roo_prog (msV d) depV W (msV_bd hd) (fun j _=>depV_bd j) (hS.below h)
 have hqu:∀ (W:World) y,Up w W→W.heap[y]?=some (.cells (vs .u8 48 d.f0) 44)→Calls Tryz.prog 77 #[.slice (some ⟨y,0,none⟩) 1 1,.agg (vs .u8 32 (tw (msV d) depV)),.agg (vs .u8 96 d.f3)] W fun e' w'=>e'=.returned (.agg (vs .u8 32 (dpQ d)))∧Below W.heap.size W w':=fun W y h hy=>que_prog (some ⟨y,0,none⟩) 1 1 d.f0 _ d.f3 W (.inr (.inr ⟨y,0,rfl,by omega,some_ltK hy,fun j hj=>by rw [Nat.zero_add];exact row_int hy j (by omega)⟩)) (fun j hj=>hd.1 j (by omega)) (fun j _=>twB ..) hd.2.2.2 (by omega) (hS.below h)
 have ld:=lvDd_run r0
 have lkk:∀ W,Up W0 W→(lvKy ⟨w.heap.size,0,none⟩).run Tryz.prog W=.ok (.agg (vs .u8 48 d.f0)) W:=fun W h=>lvKy_mid fun j hj=>by rw [Nat.zero_add];exact cD0 (upR h r0) j hj
 have lss:∀ W,Up W0 W→(lvSg ⟨w.heap.size,81,none⟩).run Tryz.prog W=.ok (.agg (vs .u8 96 d.f3)) W:=fun W h=>dd_sig (upR h r0)
 generalize dpQ d=QV at hqu ⊢
 generalize tw (msV d) depV=RT at hro hqu
 generalize msV d=MS at hme hro
 generalize depV=DV at hde hro
 have zr:=zero_root
 have HB:=hid hB0
 have HW:=hid hW0
 have HME:=hid hme
 have HDE:=hid hde
 have HRO:=hid hro
 have HQU:=hid hqu
 have HLK:=hid lkk
 have HLS:=hid lss
 have R1:=hid r1
 clear hB0 hW0 hme hde hro hqu lkk lss r0 r1 hd hS
 go_enter Tryz.func56,Tryz.ntmps56
 go_upto_region 1 with fail
 rw [HW.out]
 clear HW
 go_upto_region 2 with (first
  | (go_at_call 90; refine HME.out.mono ?_; rintro e' w1 ⟨rfl, hb1⟩; have HU1 := hid hb1; clear hb1)
  | (go_at_call 91; refine (HDE.out w1 (upT HB.out HU1.out)).mono ?_; rintro e' w2 ⟨rfl, hb2⟩; have HU2 := hid (upT HU1.out hb2); clear hb2)
  | (go_at_call 75; refine (HRO.out w2 (upT HB.out HU2.out)).mono ?_; rintro e' w3 ⟨rfl, hb3⟩; have HU3 := hid (upT HU2.out hb3); have sv := sv24_newv w3 (fun _ => 0) RT; clear hb3))
 obtain ⟨W4,y4,hW4,ey4,r4,hd4,b4⟩:=upN2 HU3.out (.cells (vs .u8 32 RT) 24)
 rw [hW4,ey4]
 have hu4:=upT HU3.out hd4
 have lk:=HLK.out W4 hu4
 have ls0:=HLS.out W4 hu4
 have HU4:=hid hu4
 have R4:=hid r4
 have bk:=fun W=>bsK_1 W d.f0
 obtain ⟨W5,y5,hW5,ey5,r5,hd5,b5⟩:=upN2 hu4 (.cells (vs .u8 48 d.f0) 44)
 have ls:=HLS.out W5 (upT hu4 hd5)
 have lr:=lv24_run (upR hd5 r4)
 have HQ5:=hid (HQU.out W5 y5 (upT HB.out (upT hu4 hd5)) r5)
 have HU5:=hid (upT hu4 hd5)
 clear hW4 ey4 r4 hd4 b4 r5 hd5 b5 hu4 sv ld ls0 HME HDE HRO HQU HLK HLS HU3 zr R4
 go_wp2_with (first | (go_at_call 77;refine HQ5.out.mono ?_;rintro e' w6 ⟨rfl,hb6⟩;have s6:=sv24_run (upR (upT HU5.out hb6) R1.out) QV))
 exact ret24 2 (w.heap.size+1) QV 24 rfl rfl rfl (setRow_at (upR (upT HU5.out hb6) R1.out)) ⟨rfl,below_row (upT HB.out (upT HU5.out hb6)) (by omega) _⟩
end
section
open Go.RowKit
set_option linter.unusedVariables false
set_option linter.unusedSimpArgs false
set_option maxRecDepth 20000
def neY (x y:Value):Sem Value:=binOp .neq 44 x y
theorem neY_eq (x y:Value):binOp .neq 44 x y=neY x y:=rfl
theorem neY_run (w:World) (c d:Nat→Int):(neY (.agg (vs .u8 48 c)) (.agg (vs .u8 48 d))).run Tryz.prog w=.ok (.bool (!eqY c d)) w:=by
 have h2:(Op.equalIn Op.maxDepth 44 (.agg (vs .u8 48 c)) (.agg (vs .u8 48 d))).run Tryz.prog w=.ok (eqY c d) w:=eq48g w c d
 unfold neY
 simp [binOp,Op.equal,h2]
attribute [local go_sem ↓] lvState_eq lvKy_eq ixValidator_eq neY_eq
set_option maxHeartbeats 4000000 in
theorem rfind_any (x : VState) (K0 : Nat → Int) (w : World) (hw : InW w x) (hn : x.f11.n ≤ 65536) :
    Calls Tryz.prog 21 #[.agg (cel (sState x)),.agg (vs .u8 48 K0)] w fun e' w'=>e'=.returned (.int .i64 (owN x.f11.z K0 x.f11.n:Nat))∧Below w.heap.size w w':=by
 obtain ⟨W0,hW0⟩:∃ W,(w.alloc (.cells (cel (sState x)) 49)).alloc (.cells (vs .u8 48 K0) 44)=W:=⟨_,rfl⟩
 have r0:W0.heap[w.heap.size]?=some (.cells (cel (sState x)) 49):=by rw [←hW0];exact (heap_old (by simp)).trans (heap_new rfl)
 have r1:W0.heap[w.heap.size+1]?=some (.cells (vs .u8 48 K0) 44):=by rw [←hW0];exact heap_new (by simp)
 have hB0:Up w W0:=by rw [←hW0];exact ((Below.refl _ _).alloc (Nat.le_refl _) _).alloc (by simp) _
 have hcs:∀ W:World,Up W0 W→W.cell? ⟨w.heap.size,721,none⟩=some (.slice x.f11.a x.f11.n x.f11.c):=fun W h=>cS11 (upR h r0)
 have hkq:∀ W:World,Up W0 W→(lvKy ⟨w.heap.size+1,0,none⟩).run Tryz.prog W=.ok (.agg (vs .u8 48 K0)) W:=fun W h=>lvKy_run (upR h r1)
 have hel:=(hw.below hB0).i11
 have HB:=hid hB0
 have HW:=hid hW0
 have HCS:=hid hcs
 have HKQ:=hid hkq
 have HEL:=hid hel
 clear hB0 hW0 r0 r1 hcs hkq hel hw
 generalize x.f11.a=A at *
 generalize x.f11.n=n at *
 generalize x.f11.c=C at *
 generalize x.f11.z=z at *
 obtain ⟨O,eO⟩:∃ o,owN z K0 n=o:=⟨_,rfl⟩
 rw [eO]
 have HO:=hid eO
 clear eO
 go_enter Tryz.func21,Tryz.ntmps21
 go_upto_region 1 with fail
 rw [HW.out]
 clear HW
 go_wp2
 go_loopw [5] (fun i wr=>∃ k:Nat,k≤n∧i=.int .i64 k∧(∀ j,j < k→eqY (z j).f0 K0=false)∧Up W0 wr) (fun i _=>n - (intOf i).toNat)
 case atStart=>exact ⟨0,by omega,rfl,fun j hj=>absurd hj (Nat.not_lt_zero _),Below.refl _ _⟩
 case round =>
  obtain ⟨k,hk,rfl,hg,hb⟩:=hrel
  have c11:=HCS.out _ hb
  by_cases hlt:k < n
  ·have k1:(k:Int) < (n:Int):=by omega
   have k2:IntKind.i64.wrap ((k:Int)+1)=(k:Int)+1:=by rw [IntKind.wrap_i64];omega
   rcases HEL.out with h0 | ⟨b,off,ea,hbl,hc⟩
   ·omega
   subst ea
   have hla:=fun m=>lvKy_mid (w:=wr.drewN m) fun j hj=>(below_cell (below_drewN hb m) hbl).trans (val_key (hc k hlt) j hj)
   have hlk:=fun m=>HKQ.out _ (below_drewN hb m)
   have hix:=fun W=>ixValidator_run W b off n C k hlt
   have hst:∀ j,j < k+1→eqY (z k).f0 K0=false→eqY (z j).f0 K0=false:=fun j hj h=>by
    by_cases e:j=k
    ·rw [e];exact h
    ·exact hg j (by omega)
   have hfo:eqY (z k).f0 K0=true→owN z K0 n=k:=fun h=>owN_at z K0 k hg h n hlt
   have hne:=fun m=>neY_run (wr.drewN m) (z k).f0 K0
   obtain ⟨P,eP⟩:∃ P,off+86*k=P:=⟨_,rfl⟩
   simp only [eP] at hla
   simp only [eP] at hix
   obtain ⟨R,eR⟩:∃ R,(z k).f0=R:=⟨_,rfl⟩
   simp only [eR] at hla hne
   rw [eR] at hst hfo
   have HST:=hid hst
   have HFO:=hid hfo
   have HDR:=hid hb
   clear hst hfo hg hb hc hbl eR eP
   cases he:eqY R K0
   ·simp only [he,Bool.not_false] at hne
    have HEQ:=hid he
    clear he
    go_wp2
    go_quiet (fail)
    go_wp2
    go_roundw
    case rel=>exact ⟨k+1,by omega,by go_num,fun j hj=>HST.out j hj HEQ.out,below_drewN HDR.out _⟩
    case measure=>simp [intOf];omega
   ·simp only [he,Bool.not_true] at hne
    have hF:=HFO.out he
    obtain rfl:O=k:=HO.out.symm.trans hF
    clear he
    go_wp2
    go_quiet (fail)
    go_wp2
    go_ret
    exact ⟨rfl,upT HB.out (below_drewN HDR.out _)⟩
  ·obtain rfl:k=n:=by omega
   have hF:=owN_none z K0 k hg
   obtain rfl:O=k:=HO.out.symm.trans hF
   have HDR:=hid hb
   have k3:¬ (O:Int) < (O:Int):=by omega
   clear hg hb
   go_wp2
   go_quiet (fail)
   go_wp2
   go_ret
   exact ⟨rfl,upT HB.out (below_drewN HDR.out _)⟩
end
end Go.Proofs.YtfgmddnfhphdeaaGreatDoor
