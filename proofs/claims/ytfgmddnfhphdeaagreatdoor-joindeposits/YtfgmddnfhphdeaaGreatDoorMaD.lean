/- A part. -/
import Derived.Test.YtfgmddnfhphdeaaGreatDoorMaC
import Derived.Test.YtfgmddnfhphdeaaGreatDoorHaG
import Derived.Test.YtfgmddnfhphdeaaGreatDoorMaA
import Derived.Maps.AppendAt
namespace Go.Proofs.YtfgmddnfhphdeaaGreatDoor
open Go.RowKit
set_option linter.unusedVariables false
set_option linter.unusedSimpArgs false
section
open Go.RowKit
set_option linter.unusedVariables false
set_option linter.unusedSimpArgs false
attribute [local go_sem ↓] sv24_eq lv24_eq ix22_eq slr_eq lv48_eq sv48_eq bd48_eq bd27_eq bs22_eq sl22_eq mk22_eq eqo_eq
def Rc (w:World):Prop:=Tab w 1 64 KW
theorem Rc.below {w w':World} (h:Rc w) (hb:Below w.heap.size w w'):Rc w':=Tab.below h hb
theorem rtwo_tw (a b : Nat → Int) (w : World) (hC : Rc w) (ha : ∀ j, j < 32 → 0 ≤ a j ∧ a j < 256) (hb : ∀ j, j < 32 → 0 ≤ b j ∧ b j < 256) :
    Calls Tryz.prog 38 #[.agg (vs .u8 32 a),.agg (vs .u8 32 b)] w fun e w'=>e=.returned (.agg (vs .u8 32 (tw a b)))∧Below w.heap.size w w' :=
 reftwo_any a b w hC ha hb
set_option maxRecDepth 20000 in
set_option maxHeartbeats 1000000 in
theorem rup_any (leaf f : Nat → Int) (a : Option Addr) (len cap p : Nat) (w : World) (hC : Rc w) (hl : ∀ j, j < 32 → 0 ≤ leaf j ∧ leaf j < 256) (hr : Rts w a len cap f) (hf : ByB f (32 * len)) (hp : p ≤ 18446744073709551615) (h64 : len ≤ 64) :
    Calls Tryz.prog 13 #[.agg (vs .u8 32 leaf),.slice a len cap,.int .u64 p] w fun e w'=>e=.returned (.agg (vs .u8 32 (upV leaf f p len)))∧Below w.heap.size w w':=by
 have HS:=hid hC
 have HL:=hid hl
 have HR:=hid hr
 have HF:=hid hf
 have z:=zero_root
 clear hC hl hr hf
 go_enter Tryz.func13,Tryz.ntmps13
 go_wp2
 go_loopw [7] (fun i wr=>∃ k:Nat,k≤len∧i=.int .i64 k∧Below w.heap.size w wr∧w.heap.size+1 < wr.heap.size∧wr.heap[w.heap.size]?=some (.cells (vs .u8 32 (upV leaf f p k)) 24)∧wr.heap[w.heap.size+1]?=some (.cells (vs .u8 32 fun _=>0) 24)) (fun i _=>len - (intOf i).toNat)
 case atStart =>
  refine ⟨0,by omega,rfl,by go_grown,by simp,?_,?_⟩
  ·exact (heap_old (by simp)).trans (heap_new rfl)
  ·exact heap_new (by simp)
 case round =>
  clear z
  obtain ⟨k,hk,rfl,hB,hz,rl,rr⟩:=hrel
  by_cases hlt:k < len
  ·have b3:decide (k < len)=true:=by simp;omega
   obtain ⟨P,eP⟩:∃ P,P=p / 2 ^ k:=⟨_,rfl⟩
   have hP:P≤18446744073709551615:=by rw [eP];exact Nat.le_trans (Nat.div_le_self _ _) hp
   have s0:(p:Int) / 2 ^ k=(P:Int):=by rw [eP];simp
   obtain ⟨b,o,hbw,hx,hc⟩:=HR.out.at k hlt
   have hbr:∀ j,j < 32→0≤rt32 f k j∧rt32 f k j < 256:=fun j hj=>HF.out _ (by omega)
   have hla:∀ W,Below wr.heap.size wr W→(lv24 ⟨b,o,none⟩).run Tryz.prog W=.ok (.agg (vs .u8 32 (rt32 f k))) W:=fun W h=>lv24_mid (fun j hj=>(below_cell h (by have:=hB.size;omega)).trans ((below_cell hB hbw).trans (hc j hj)))
   have hlb:∀ W,Below wr.heap.size wr W→(lv24 ⟨w.heap.size,0,none⟩).run Tryz.prog W=.ok (.agg (vs .u8 32 (upV leaf f p k))) W:=fun W h=>lv24_run ((h.block _ (by omega)).trans rl)
   have hst:∀ (c:Nat→Int) (w2:World),Below wr.heap.size wr w2→c=upV leaf f p (k+1)→∃ W3,(sv24 ⟨w.heap.size,0,none⟩ (.agg (vs .u8 32 c))).run Tryz.prog w2=.ok () W3∧Below w.heap.size w W3∧w.heap.size+1 < W3.heap.size∧W3.heap[w.heap.size]?=some (.cells (vs .u8 32 (upV leaf f p (k+1))) 24)∧W3.heap[w.heap.size+1]?=some (.cells (vs .u8 32 fun _=>0) 24):=by
    rintro c w2 hb2 rfl
    have r2:=(hb2.block w.heap.size (by omega)).trans rl
    have:=hb2.size
    refine ⟨_,sv24_run r2 _,below_row (hB.trans (hb2.mono (by omega))) (Nat.le_refl _) _,by simp;omega,setRow_at r2,(setRow_other _ _ _ _ (by omega)).trans ((hb2.block _ (by omega)).trans rr)⟩
   have hdr:Below wr.heap.size wr wr.drew:=⟨rfl,rfl,rfl,Nat.le_refl _,fun _ _=>rfl⟩
   have htw:∀ (x y:Nat→Int) (W:World),Below wr.heap.size wr W→(∀ j,j < 32→0≤x j∧x j < 256)→(∀ j,j < 32→0≤y j∧y j < 256)→Calls Tryz.prog 38 #[.agg (vs .u8 32 x),.agg (vs .u8 32 y)] W fun e w'=>e=.returned (.agg (vs .u8 32 (tw x y)))∧Below wr.heap.size wr w':=by
    intro x y W h hxb hyb
    refine (rtwo_tw x y W (HS.out.below (hB.trans (h.mono hB.size))) hxb hyb).mono ?_
    rintro e w' ⟨rfl,hb⟩
    exact ⟨rfl,h.trans (hb.mono h.size)⟩
   have HBR:=hid hbr
   have HLA:=hid hla
   have HLB:=hid hlb
   have HST:=hid hst
   have HDR:=hid hdr
   have HTW:=hid htw
   have HEP:=hid eP
   clear hc hbr hla hlb hst hdr htw rl rr hB eP
   by_cases hodd:P % 2=1
   ·have a1:bits .and .u64 (P:Int) 1=1:=by
     rw [u64_and _ _ (by omega) (by omega) (by omega) (by omega)]
     simp [Nat.and_one_is_mod,hodd]
    have e3:tw (rt32 f k) (upV leaf f p k)=upV leaf f p (k+1):=by
     show _=if p / 2 ^ k % 2=1 then _ else _
     rw [←HEP.out,if_pos hodd]
    have E3:=hid e3
    clear e3
    go_upto_region 5 with fail
    have l1:=HLA.out _ HDR.out
    have l2:=HLB.out _ HDR.out
    go_region_with (go_at_call 38;refine (HTW.out _ _ _ HDR.out HBR.out (upV_bd (f:=f) HL.out p k)).mono ?_;rintro e w2 ⟨rfl,hb2⟩;obtain ⟨W3,sv,h3⟩:=HST.out _ w2 hb2 E3.out)
    all_goals
     go_wp2
     go_roundw
     case rel=>exact ⟨k+1,by omega,by go_num,h3.1,h3.2.1,h3.2.2.1,h3.2.2.2⟩
     case measure=>simp [intOf];omega
   ·have a1:bits .and .u64 (P:Int) 1=0:=by
     rw [u64_and _ _ (by omega) (by omega) (by omega) (by omega)]
     simp [Nat.and_one_is_mod]
     omega
    have e3:tw (upV leaf f p k) (rt32 f k)=upV leaf f p (k+1):=by
     show _=if p / 2 ^ k % 2=1 then _ else _
     rw [←HEP.out,if_neg hodd]
    have E3:=hid e3
    clear e3
    go_upto_region 6 with fail
    have l1:=HLA.out _ HDR.out
    have l2:=HLB.out _ HDR.out
    go_region_with (go_at_call 38;refine (HTW.out _ _ _ HDR.out (upV_bd (f:=f) HL.out p k) HBR.out).mono ?_;rintro e w2 ⟨rfl,hb2⟩;obtain ⟨W3,sv,h3⟩:=HST.out _ w2 hb2 E3.out)
    all_goals
     go_wp2
     go_roundw
     case rel=>exact ⟨k+1,by omega,by go_num,h3.1,h3.2.1,h3.2.2.1,h3.2.2.2⟩
     case measure=>simp [intOf];omega
  ·have ek:k=len:=by omega
   subst ek
   have b3:decide (k < k)=false:=by simp
   have l1:=lv24_run rl
   have s1:=sv24_run rr (upV leaf f p k)
   have HRR:=hid rr
   clear rl rr
   go_wp2
   refine ret24 6 (w.heap.size+1) _ 24 rfl rfl rfl (setRow_at HRR.out) ⟨rfl,below_row hB (by omega) _⟩
set_option maxRecDepth 20000 in
set_option maxHeartbeats 1000000 in
theorem rholds_any (leaf root f : Nat → Int) (a : Option Addr) (len cap p : Nat) (w : World) (hC : Rc w) (hl : ∀ j, j < 32 → 0 ≤ leaf j ∧ leaf j < 256) (hr : Rts w a len cap f) (hf : ByB f (32 * len)) (hp : p ≤ 18446744073709551615) (hln : len ≤ 9223372036854775807) :
    Calls Tryz.prog 20 #[.agg (vs .u8 32 leaf),.slice a len cap,.int .u64 p,.agg (vs .u8 32 root)] w fun e w'=>e=.returned (.bool (holdsV leaf f len p root))∧Below w.heap.size w w':=by
 by_cases h64:len≤64
 ·have b1:decide (len≤64)=true:=by simp;omega
  have b2:decide ((len:Int)≤64)=true:=by simp;omega
  have hval:holdsV leaf f len p root=eqR (upV leaf f p len) root:=by
   unfold holdsV
   rw [decide_eq_true h64,Bool.true_and]
  rw [hval]
  obtain ⟨X,hX⟩:∃ X,upV leaf f p len=X:=⟨_,rfl⟩
  rw [hX]
  have HX:=hid hX
  clear hval hX
  have HS:=hid hC
  have HR:=hid hr
  have HL:=hid hl
  have HF:=hid hf
  clear hC hl hr hf
  go_enter Tryz.func20,Tryz.ntmps20
  go_upto_region 1 with fail
  obtain ⟨W0,hW0⟩:∃ W,(w.alloc (.cells (vs .u8 32 leaf) 24)).alloc (.cells (vs .u8 32 root) 24)=W:=⟨_,rfl⟩
  rw [hW0]
  have hB0:Below w.heap.size w W0:=by rw [←hW0];go_grown
  have z0:W0.heap.size=w.heap.size+2:=by rw [←hW0];simp
  have ra:W0.heap[w.heap.size]?=some (.cells (vs .u8 32 leaf) 24):=by rw [←hW0];exact (heap_old (by simp)).trans (heap_new rfl)
  have rb:W0.heap[w.heap.size+1]?=some (.cells (vs .u8 32 root) 24):=by rw [←hW0];exact heap_new (by simp)
  have hla:∀ W,Below W0.heap.size W0 W→(lv24 ⟨w.heap.size,0,none⟩).run Tryz.prog W=.ok (.agg (vs .u8 32 leaf)) W:=fun W h=>lv24_run ((h.block _ (by omega)).trans ra)
  have hlb:∀ W,Below W0.heap.size W0 W→(lv24 ⟨w.heap.size+1,0,none⟩).run Tryz.prog W=.ok (.agg (vs .u8 32 root)) W:=fun W h=>lv24_run ((h.block _ (by omega)).trans rb)
  have hdr:Below W0.heap.size W0 W0.drew:=⟨rfl,rfl,rfl,Nat.le_refl _,fun _ _=>rfl⟩
  have hup:∀ W,Below W0.heap.size W0 W→Calls Tryz.prog 13 #[.agg (vs .u8 32 leaf),.slice a len cap,.int .u64 p] W fun e w'=>e=.returned (.agg (vs .u8 32 (upV leaf f p len)))∧Below W0.heap.size W0 w':=by
   intro W h
   have hbw:Below w.heap.size w W:=hB0.trans (h.mono hB0.size)
   refine (rup_any leaf f a len cap p W (HS.out.below hbw) HL.out (HR.out.below hbw) HF.out hp h64).mono ?_
   rintro e w' ⟨rfl,hb⟩
   exact ⟨rfl,h.trans (hb.mono h.size)⟩
  have hfin:∀ W,Below W0.heap.size W0 W→Below w.heap.size w W:=fun W h=>hB0.trans (h.mono hB0.size)
  rw [HX.out] at hup
  have HLA:=hid hla
  have HLB:=hid hlb
  have HDR:=hid hdr
  have HUP:=hid hup
  have HFIN:=hid hfin
  clear hla hlb hdr hup hfin ra rb hB0 hW0 HR HL HF HS z0 HX
  refine wp_region_noPanic ?_
  refine wp_region_held_drew (S:=fun W=>Below W0.heap.size W0 W) (by kernel_rfl) (HDR.out) (fun hHeld=>?_)
  refine tk 0 (v:=?v1) ?y1 hHeld ?r1
  case y1=>intro w hSw;go_simp;try with_reducible rfl
  refine tk 1 (v:=?v2) ?y2 hHeld ?r2
  case y2=>intro w hSw;go_simp;try with_reducible rfl
  refine tk 2 (v:=?v3) ?y3 hHeld ?r3
  case y3=>intro w hSw;go_simp;try with_reducible rfl
  refine tk 3 (v:=?v4) ?y4 hHeld ?r4
  case y4=>intro w hSw;go_simp;try with_reducible rfl
  refine tk 4 (v:=?v5) ?y5 hHeld ?r5
  case y5=>intro w hSw;have ld:=HLA.out _ hSw;go_simp;try with_reducible rfl
  refine tk 5 (v:=?v6) ?y6 hHeld ?r6
  case y6=>intro w hSw;go_simp;try with_reducible rfl
  refine tk 6 (v:=?v7) ?y7 hHeld ?r7
  case y7=>intro w hSw;go_simp;try with_reducible rfl
  refine tk 8 (v:=?v8) ?y8 hHeld ?r8
  case y8=>intro w hSw;have ld:=HLB.out _ hSw;go_simp;try with_reducible rfl
  try simp only [Act.put,z_1,z_2,z_3,z_4,z_5,z_6,z_7]
  refine wpAnyH_ready (rs:=[7]) (by kernel_rfl) (by simp) ?_
  refine AllReadyH.cons rfl (fun K hK=>?_) AllReadyH.nil
  go_simp
  refine (HUP.out _ HDR.out).mono ?_
  rintro e w3 ⟨rfl,hs1⟩
  dsimp only
  refine hK.out _ _ (hs1) (fun hHeld=>?_)
  clear hK K
  try simp only [Act.put,z_1,z_2,z_3,z_4,z_5,z_6,z_7]
  refine wpAnyH_take (i:=9) rfl (by kernel_rfl) (by kernel_rfl) (by kernel_rfl) (fun _ _ _ h=>h) (yields_eqo (by rfl) _ _ _ rfl X root rfl rfl) hHeld ?_
  try simp only [Act.put,z_1,z_2,z_3,z_4,z_5,z_6,z_7]
  refine tk 10 (v:=?v9) ?y9 hHeld ?r9
  case y9=>intro w hSw;go_simp;try with_reducible rfl
  refine tk 11 (v:=?v10) ?y10 hHeld ?r10
  case y10=>intro w hSw;go_simp;try with_reducible rfl
  try simp only [Act.put,z_1,z_2,z_3,z_4,z_5,z_6,z_7]
  refine wpAnyH_done (by kernel_rfl) ?_ _
  refine NoPanic.normal ?_
  go_wp2
  go_ret
  exact ⟨rfl,HFIN.out _ hs1⟩
 ·have b1:decide (len≤64)=false:=by simp;omega
  have b2:decide ((len:Int)≤64)=false:=by simp;omega
  have hval:holdsV leaf f len p root=false:=by
   unfold holdsV
   rw [decide_eq_false h64,Bool.false_and]
  rw [hval]
  clear hC hl hr hf hval
  go_enter Tryz.func20,Tryz.ntmps20
  go_upto_region 1 with fail
  obtain ⟨W0,hW0⟩:∃ W,(w.alloc (.cells (vs .u8 32 leaf) 24)).alloc (.cells (vs .u8 32 root) 24)=W:=⟨_,rfl⟩
  rw [hW0]
  have hB0:Below w.heap.size w W0:=by rw [←hW0];go_grown
  refine wp_region_noPanic ?_
  refine wp_region_held_drew (S:=fun _=>True) (by kernel_rfl) (trivial) (fun hHeld=>?_)
  refine tk 0 (v:=?v11) ?y11 hHeld ?r11
  case y11=>intro w hSw;go_simp;try with_reducible rfl
  refine tk 1 (v:=?v12) ?y12 hHeld ?r12
  case y12=>intro w hSw;go_simp;try with_reducible rfl
  refine tk 2 (v:=?v13) ?y13 hHeld ?r13
  case y13=>intro w hSw;go_simp;try with_reducible rfl
  refine tk 3 (v:=?v14) ?y14 hHeld ?r14
  case y14=>intro w hSw;go_simp;try with_reducible rfl
  refine tl 4 hHeld ?_
  refine tl 5 hHeld ?_
  refine tl 6 hHeld ?_
  refine tl 7 hHeld ?_
  refine tl 8 hHeld ?_
  refine tl 9 hHeld ?_
  refine tk 10 (v:=?v15) ?y15 hHeld ?r15
  case y15=>intro w hSw;go_simp;try with_reducible rfl
  refine tk 11 (v:=?v16) ?y16 hHeld ?r16
  case y16=>intro w hSw;go_simp;try with_reducible rfl
  try simp only [Act.put,z_1,z_2,z_3,z_4,z_5,z_6,z_7]
  refine wpAnyH_done (by kernel_rfl) ?_ _
  refine NoPanic.normal ?_
  go_wp2
  go_ret
  exact ⟨rfl,hB0.drew⟩
end
section
open Go.RowKit
set_option linter.unusedVariables false
set_option linter.unusedSimpArgs false
def apR (ty:TypeId) (x y:Value):Sem Value:=Builtin.append_ #[32,32] ty #[x,y]
theorem wp_appendR_is {P : Program} {o : Oper} {a : Act} {w : World} {K : Act → World → Prop} {Q : Exit → Act → World → Prop} (s x : Operand)
    (ho:o.op=.call { callee:=.builtin .append,args:=#[s,x],argTypes:=#[32,32] }) (ws wx v:Value) (w':World) (hs:a.eval s=ws) (hx:a.eval x=wx)
    (hrun:(apR o.type ws wx).run P w=.ok v w') (h:K (a.put o.dst v) w'):Oper.wp P o a w K Q:=by
 unfold apR at hrun
 unfold Oper.wp execOp
 simp only [ho,resolve,invoke,builtin,Sem.run_bind,Sem.run_pure,Result.andThen_ok,List.map_toArray,List.map_cons,List.map_nil,hs,hx,hrun]
 exact h
attribute [local go_sem ↓] sv24_eq lv24_eq ix22_eq slr_eq lv48_eq sv48_eq bd48_eq bd27_eq sl22_eq mk22_eq eqo_eq
end
section
open Go.RowKit
set_option linter.unusedVariables false
set_option linter.unusedSimpArgs false
theorem yields_neo {ops : Array Oper} {S : World → Prop} {op : Oper} {a : Act} (hw : Region.wanted op (yielded ops a.tmps) = true) (x y : Operand) (rt : TypeId) (ho : op.op = .binOp .neq 24 x y rt) (c d : Nat → Int)
    (hx:a.eval x=.agg (vs .u8 32 c)) (hy:a.eval y=.agg (vs .u8 32 d)):YieldsIf Tryz.prog ops S op (.bool (!eqR c d)) a :=
 .inl ⟨hw,fun w _=>by
  have h:(Op.equalIn Op.maxDepth 24 (.agg (vs .u8 32 c)) (.agg (vs .u8 32 d))).run Tryz.prog w=.ok (eqR c d) w:=eq32g w c d
  unfold execOp
  simp [ho,hx,hy,eqGuard,binOp,Op.equal,h]⟩
attribute [local go_sem ↓] sv24_eq lv24_eq ix22_eq slr_eq lv48_eq sv48_eq bd48_eq bd27_eq bs22_eq sl22_eq mk22_eq eqo_eq
set_option maxRecDepth 20000 in
set_option maxHeartbeats 1000000 in
theorem rsame_true (a b : Option Addr) (len cap cap' : Nat) (f g : Nat → Int) (w : World) (h1 : Rts w a len cap f) (h2 : Rts w b len cap' g) (hfg : ∀ q, q < 32 * len → f q = g q) (hl : len ≤ 140737488355328) :
    Calls Tryz.prog 28 #[.slice a len cap,.slice b len cap'] w fun e w'=>e=.returned (.bool true)∧Below w.heap.size w w':=by
 have H1:=hid h1
 have H2:=hid h2
 have HFG:=hid hfg
 clear h1 h2 hfg
 go_enter Tryz.func28,Tryz.ntmps28
 go_wp2
 go_loopw [5] (fun i wr=>∃ k:Nat,k≤len∧i=.int .i64 k∧Below w.heap.size w wr) (fun i _=>len - (intOf i).toNat)
 case atStart=>exact ⟨0,by omega,rfl,Below.refl _ _⟩
 case round =>
  obtain ⟨k,hk,rfl,hB⟩:=hrel
  by_cases hlt:k < len
  ·have b3:decide (k < len)=true:=by simp;omega
   obtain ⟨b1,o1,hb1,hx1,hc1⟩:=H1.out.at k hlt
   obtain ⟨b2,o2,hb2,hx2,hc2⟩:=H2.out.at k hlt
   have hla:∀ W,Below w.heap.size w W→(lv24 ⟨b1,o1,none⟩).run Tryz.prog W=.ok (.agg (vs .u8 32 (rt32 f k))) W:=fun W h=>lv24_mid (fun j hj=>(below_cell h hb1).trans (hc1 j hj))
   have hlb:∀ W,Below w.heap.size w W→(lv24 ⟨b2,o2,none⟩).run Tryz.prog W=.ok (.agg (vs .u8 32 (rt32 g k))) W:=fun W h=>lv24_mid (fun j hj=>(below_cell h hb2).trans (hc2 j hj))
   have heq:eqR (rt32 f k) (rt32 g k)=true:=by
    have e:=eqR_congr (c:=rt32 f k) (c':=rt32 g k) (d:=rt32 g k) (d':=rt32 g k) (fun j hj=>HFG.out _ (by omega)) (fun _ _=>rfl)
    rw [e]
    exact eqR_self _
   have HLA:=hid hla
   have HLB:=hid hlb
   have HEQ:=hid heq
   have HDR:=hid hB.drew
   clear hla hlb heq hc1 hc2 hB
   go_upto_region 6 with fail
   refine wp_region_noPanic ?_
   refine wp_region_held_drew (S:=fun W=>Below w.heap.size w W) (by kernel_rfl) (HDR.out) (fun hHeld=>?_)
   refine tk 0 (v:=?v1) ?y1 hHeld ?r1
   case y1=>intro w hSw;go_simp;try with_reducible rfl
   refine tk 1 (v:=?v2) ?y2 hHeld ?r2
   case y2=>intro w hSw;go_simp;try with_reducible rfl
   refine tk 2 (v:=?v3) ?y3 hHeld ?r3
   case y3=>intro w hSw;go_simp;try with_reducible rfl
   refine tk 3 (v:=?v4) ?y4 hHeld ?r4
   case y4=>intro w hSw;have ld:=HLA.out _ hSw;go_simp;try with_reducible rfl
   refine tk 4 (v:=?v5) ?y5 hHeld ?r5
   case y5=>intro w hSw;go_simp;try with_reducible rfl
   refine tk 5 (v:=?v6) ?y6 hHeld ?r6
   case y6=>intro w hSw;go_simp;try with_reducible rfl
   refine tk 6 (v:=?v7) ?y7 hHeld ?r7
   case y7=>intro w hSw;go_simp;try with_reducible rfl
   refine tk 7 (v:=?v8) ?y8 hHeld ?r8
   case y8=>intro w hSw;have ld:=HLB.out _ hSw;go_simp;try with_reducible rfl
   try simp only [Act.put,z_1,z_2,z_3,z_4,z_5,z_6,z_7]
   refine wpAnyH_take (i:=8) rfl (by kernel_rfl) (by kernel_rfl) (by kernel_rfl) (fun _ _ _ h=>h) (yields_neo (by rfl) _ _ _ rfl (rt32 f k) (rt32 g k) rfl rfl) hHeld ?_
   rw [HEQ.out,Bool.not_true]
   try simp only [Act.put,z_1,z_2,z_3,z_4,z_5,z_6,z_7]
   refine wpAnyH_done (by kernel_rfl) ?_ _
   refine NoPanic.normal ?_
   go_wp2
   go_roundw
   case rel=>exact ⟨k+1,by omega,by go_num,HDR.out⟩
   case measure=>simp [intOf];omega
  ·have ek:k=len:=by omega
   subst ek
   have b3:decide (k < k)=false:=by simp
   go_wp2
   go_ret
   exact ⟨rfl,hB⟩
theorem shl_one (d:Nat) (hd:d≤40):wrap64 ((2:Int) ^ d)=((2 ^ d:Nat):Int):=by
 have:2 ^ d≤2 ^ 40:=Nat.pow_le_pow_right (by omega) hd
 unfold wrap64
 have e:((2:Int) ^ d)=((2 ^ d:Nat):Int):=by simp
 rw [e]
 have h0:0 < 2 ^ d:=Nat.two_pow_pos d
 generalize 2 ^ d=X at this h0 ⊢
 have h1:(X:Int)≤1099511627776:=by omega
 omega
set_option maxRecDepth 20000 in
set_option maxHeartbeats 1000000 in
theorem rdepth_any (n : Nat) (w : World) (hn : n ≤ 1099511627776) :
    Calls Tryz.prog 103 #[.int .i64 n] w fun e w'=>e=.returned (.int .i64 (dpt n:Nat))∧w'=w:=by
 have hD2:=dpt_le n hn
 have hD3:=dpt_ge n hn
 have hD4:=fun k=>dpt_lt n k hn
 generalize dpt n=D at hD2 hD3 hD4 ⊢
 have HD4:=hid hD4
 clear hD4
 go_enter Tryz.func103,Tryz.ntmps103
 go_wp2
 go_loopw [3] (fun i wr=>∃ k:Nat,k≤D∧i=.int .i64 k∧wr=w) (fun i _=>D - (intOf i).toNat)
 case atStart=>exact ⟨0,by omega,rfl,rfl⟩
 case round =>
  obtain ⟨k,hk,rfl,rfl⟩:=hrel
  have hs:=shl_one k (by omega)
  obtain ⟨X,eX⟩:∃ X:Nat,2 ^ k=X:=⟨_,rfl⟩
  rw [eX] at hs
  by_cases hlt:k < D
  ·have hx:=HD4.out k hlt
   rw [eX] at hx
   have b3:decide (X < n)=true:=by simp;omega
   have b4:decide ((X:Int) < (n:Int))=true:=by simp;omega
   clear eX
   go_wp2
   go_roundw
   case rel=>exact ⟨k+1,by omega,by go_num,by trivial⟩
   case measure=>simp [intOf];omega
  ·have ek:k=D:=by omega
   subst ek
   have b3:decide (X < n)=false:=by simp;omega
   have b4:decide ((X:Int) < (n:Int))=false:=by simp;omega
   clear eX hD3
   go_wp2
   go_ret
   exact ⟨rfl,rfl⟩
end
section
open Go.RowKit
set_option linter.unusedVariables false
set_option linter.unusedSimpArgs false
attribute [local go_sem ↓] sv24_eq lv24_eq ix22_eq slr_eq lv48_eq sv48_eq bd48_eq bd27_eq bs22_eq sl22_eq mk22_eq eqo_eq
end
section
open Go.RowKit
set_option linter.unusedVariables false
set_option linter.unusedSimpArgs false
theorem nd_congr (f g:Nat→Int) (len m:Nat):∀ (e i i':Nat),(∀ t,t < 2 ^ e→∀ j,j < 32→nd f len 0 (i*2 ^ e+t) j=nd g m 0 (i'*2 ^ e+t) j)→∀ j,j < 32→nd f len e i j=nd g m e i' j
 | 0, i, i', h => by
  intro j hj
  have:=h 0 (by simp) j hj
  simpa using this
 | e + 1, i, i', h => by
  intro j hj
  have hp:2 ^ (e+1)=2*2 ^ e:=by rw [Nat.pow_succ,Nat.mul_comm]
  refine tw_congr (nd_congr f g len m e (2*i) (2*i') fun t ht j hj=>?_) (nd_congr f g len m e (2*i+1) (2*i'+1) fun t ht j hj=>?_) j hj
  ·have:=h t (by omega) j hj
   rw [hp] at this
   rw [show 2*i*2 ^ e+t=i*(2*2 ^ e)+t by rw [Nat.mul_comm 2 i,Nat.mul_assoc],show 2*i'*2 ^ e+t=i'*(2*2 ^ e)+t by rw [Nat.mul_comm 2 i',Nat.mul_assoc]]
   exact this
  ·have:=h (2 ^ e+t) (by omega) j hj
   rw [hp] at this
   rw [show (2*i+1)*2 ^ e+t=i*(2*2 ^ e)+(2 ^ e+t) by rw [Nat.add_mul,Nat.one_mul,Nat.mul_comm 2 i,Nat.mul_assoc,Nat.add_assoc],show (2*i'+1)*2 ^ e+t=i'*(2*2 ^ e)+(2 ^ e+t) by rw [Nat.add_mul,Nat.one_mul,Nat.mul_comm 2 i',Nat.mul_assoc,Nat.add_assoc]]
   exact this
def shf (f:Nat→Int) (s:Nat) (q:Nat):Int:=f (32*s+q)
theorem shf_shf (f:Nat→Int) (s t:Nat):shf (shf f s) t=shf f (s+t):=by
 funext q
 unfold shf
 rw [Nat.mul_add,Nat.add_assoc]
theorem rt32_shf (f:Nat→Int) (s i:Nat):rt32 (shf f s) i=rt32 f (s+i):=by
 funext j
 unfold rt32 shf
 rw [Nat.mul_add,Nat.add_assoc]
theorem nd_left (f:Nat→Int) (n d h:Nat) (hh:h=min (2 ^ d) n):∀ j,j < 32→nd f n d 0 j=nd f h d 0 j:=by
 refine nd_congr f f n h d 0 0 fun t ht j hj=>?_
 unfold nd
 rw [Nat.zero_mul,Nat.zero_add]
 by_cases h1:t < n
 ·rw [if_pos h1,if_pos (by omega)]
 ·rw [if_neg h1,if_neg (by omega)]
theorem nd_right (f:Nat→Int) (n d h:Nat) (hh:h=min (2 ^ d) n):∀ j,j < 32→nd f n d 1 j=nd (shf f h) (n - h) d 0 j:=by
 refine nd_congr f (shf f h) n (n - h) d 1 0 fun t ht j hj=>?_
 unfold nd
 rw [Nat.zero_mul,Nat.zero_add,Nat.one_mul]
 by_cases h1:2 ^ d+t < n
 ·rw [if_pos h1,if_pos (by omega),rt32_shf,show h=2 ^ d by omega]
 ·rw [if_neg h1,if_neg (by omega)]
def trV (f:Nat→Int):Nat→Nat→Nat→Nat→Int
 | 0, s, n => if n = 0 then zr 0 else rt32 f s
 | d + 1, s, n => if n = 0 then zr (d + 1) else tw (trV f d s (min (2 ^ d) n)) (trV f d (s + min (2 ^ d) n) (n - min (2 ^ d) n))
theorem trV_nd (f:Nat→Int):∀ (d s n:Nat),n≤2 ^ d→∀ j,j < 32→trV f d s n j=nd (shf f s) n d 0 j
 | 0, s, n, hn => by
  intro j hj
  unfold trV nd
  by_cases h:n=0
  ·rw [if_pos h,if_neg (by omega)]
   rfl
  ·rw [if_neg h,if_pos (by omega),rt32_shf]
   rfl
 | d + 1, s, n, hn => by
  intro j hj
  have hp:2 ^ (d+1)=2*2 ^ d:=by rw [Nat.pow_succ,Nat.mul_comm]
  unfold trV
  by_cases h:n=0
  ·subst h
   rw [if_pos rfl,nd_zero (shf f s) 0 (d+1) 0 (by have:=up_le 0 (d+1);omega)]
  ·rw [if_neg h]
   obtain ⟨m,hm⟩:∃ m,m=min (2 ^ d) n:=⟨_,rfl⟩
   rw [←hm]
   refine tw_congr (fun j hj=>?_) (fun j hj=>?_) j hj
   ·rw [trV_nd f d s m (by omega) j hj]
    exact (nd_left (shf f s) n d m hm j hj).symm
   ·rw [trV_nd f d (s+m) (n - m) (by omega) j hj,←shf_shf]
    exact (nd_right (shf f s) n d m hm j hj).symm
end
end Go.Proofs.YtfgmddnfhphdeaaGreatDoor
