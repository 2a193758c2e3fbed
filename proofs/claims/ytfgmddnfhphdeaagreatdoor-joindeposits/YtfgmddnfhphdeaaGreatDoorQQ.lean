/- A part. -/
import Derived.Test.YtfgmddnfhphdeaaGreatDoorCoA
import Derived.Deep.Onto
namespace Go.Proofs.YtfgmddnfhphdeaaGreatDoor
open Go.RowKit
set_option linter.unusedVariables false
set_option linter.unusedSimpArgs false
section
open Go.RowKit
set_option linter.unusedVariables false
set_option linter.unusedSimpArgs false
theorem sub_range {w:World} {g o:Nat} {C:Array Value} {t:TypeId} {l:List Value} (h:w.heap[g]?=some (.cells C t)) (hl:(C.toList.drop o).take l.length=l):w.rangeAt g o l:=by
 intro j v hj
 have hlt:=(List.getElem?_eq_some_iff.1 hj).1
 rw [row_cell h,←hj]
 have e:((C.toList.drop o).take l.length)[j]?=l[j]?:=by rw [hl]
 rw [List.getElem?_take_of_lt hlt,List.getElem?_drop,Array.getElem?_toList] at e
 exact e
def lvFork (a:Addr):Sem Value:=loadVar 28 a
theorem lvFork_eq (a:Addr):loadVar 28 a=lvFork a:=rfl
theorem lvFork_mid {w:World} {g:Nat} {C:Array Value} {t:TypeId} {x:VFork} (h:w.heap[g]?=some (.cells C t)) (o:Nat) (hl:(C.toList.drop o).take (celL (sFork x)).length=celL (sFork x)) (hs:slen (sFork x)=9):(lvFork ⟨g,o,none⟩).run Tryz.prog w=.ok (.agg (cel (sFork x))) w :=
 loadAt_var (run_loadAt_mid w g o 28 _ _ (sub_range h hl) Tryz.underlying28 rfl (by rw [celL_len,hs];kernel_rfl))
def lvCheckpoint (a:Addr):Sem Value:=loadVar 42 a
theorem lvCheckpoint_eq (a:Addr):loadVar 42 a=lvCheckpoint a:=rfl
theorem lvCheckpoint_mid {w:World} {g:Nat} {C:Array Value} {t:TypeId} {x:VCheckpoint} (h:w.heap[g]?=some (.cells C t)) (o:Nat) (hl:(C.toList.drop o).take (celL (sCheckpoint x)).length=celL (sCheckpoint x)) (hs:slen (sCheckpoint x)=33):(lvCheckpoint ⟨g,o,none⟩).run Tryz.prog w=.ok (.agg (cel (sCheckpoint x))) w :=
 loadAt_var (run_loadAt_mid w g o 42 _ _ (sub_range h hl) Tryz.underlying42 rfl (by rw [celL_len,hs];kernel_rfl))
def lvValidator (a:Addr):Sem Value:=loadVar 74 a
theorem lvValidator_eq (a:Addr):loadVar 74 a=lvValidator a:=rfl
def lvEth1 (a:Addr):Sem Value:=loadVar 34 a
theorem lvEth1_eq (a:Addr):loadVar 34 a=lvEth1 a:=rfl
theorem lvEth1_mid {w:World} {g:Nat} {C:Array Value} {t:TypeId} {x:VEth1} (h:w.heap[g]?=some (.cells C t)) (o:Nat) (hl:(C.toList.drop o).take (celL (sEth1 x)).length=celL (sEth1 x)) (hs:slen (sEth1 x)=65):(lvEth1 ⟨g,o,none⟩).run Tryz.prog w=.ok (.agg (cel (sEth1 x))) w :=
 loadAt_var (run_loadAt_mid w g o 34 _ _ (sub_range h hl) Tryz.underlying34 rfl (by rw [celL_len,hs];kernel_rfl))
def lvHeader (a:Addr):Sem Value:=loadVar 30 a
theorem lvHeader_eq (a:Addr):loadVar 30 a=lvHeader a:=rfl
theorem lvHeader_mid {w:World} {g:Nat} {C:Array Value} {t:TypeId} {x:VHeader} (h:w.heap[g]?=some (.cells C t)) (o:Nat) (hl:(C.toList.drop o).take (celL (sHeader x)).length=celL (sHeader x)) (hs:slen (sHeader x)=98):(lvHeader ⟨g,o,none⟩).run Tryz.prog w=.ok (.agg (cel (sHeader x))) w :=
 loadAt_var (run_loadAt_mid w g o 30 _ _ (sub_range h hl) Tryz.underlying30 rfl (by rw [celL_len,hs];kernel_rfl))
def lvExit (a:Addr):Sem Value:=loadVar 70 a
theorem lvExit_eq (a:Addr):loadVar 70 a=lvExit a:=rfl
def lvDepositData (a:Addr):Sem Value:=loadVar 58 a
theorem lvDepositData_eq (a:Addr):loadVar 58 a=lvDepositData a:=rfl
theorem lvDepositData_mid {w:World} {g:Nat} {C:Array Value} {t:TypeId} {x:VDepositData} (h:w.heap[g]?=some (.cells C t)) (o:Nat) (hl:(C.toList.drop o).take (celL (sDepositData x)).length=celL (sDepositData x)) (hs:slen (sDepositData x)=177):(lvDepositData ⟨g,o,none⟩).run Tryz.prog w=.ok (.agg (cel (sDepositData x))) w :=
 loadAt_var (run_loadAt_mid w g o 58 _ _ (sub_range h hl) Tryz.underlying58 rfl (by rw [celL_len,hs];kernel_rfl))
def lvSignedExit (a:Addr):Sem Value:=loadVar 72 a
theorem lvSignedExit_eq (a:Addr):loadVar 72 a=lvSignedExit a:=rfl
end
section
open Go.RowKit
set_option linter.unusedVariables false
set_option linter.unusedSimpArgs false
attribute [local go_sem ↓] sv24_eq lv24_eq ix22_eq slr_eq bd27_eq bs22_eq sv8_eq mkI_eq ixI_eq ixP_eq bsP_eq lvCheckpoint_eq lvHeader_eq lvExit_eq
end
section
open Go.RowKit
set_option linter.unusedVariables false
set_option linter.unusedSimpArgs false
def fl7 (rs:List (Nat→Int)) (q:Nat):Int:=(rs.getD (q / 32) (fun _=>0)) (q % 32)
theorem fl7_bd {rs:List (Nat→Int)} (h:∀ c ∈ rs,∀ j,j < 32→0≤c j∧c j < 256) (n:Nat):ByB (fl7 rs) n:=fun q _=>by
 unfold fl7
 rw [List.getD_eq_getElem?_getD]
 cases e:rs[q / 32]? with
 | none => exact ⟨Int.le_refl _, by show (0 : Int) < 256; decide⟩
 | some c => exact h c (List.mem_of_getElem? e) _ (Nat.mod_lt _ (by decide))
theorem bs22_2 (W:World) (a b:Nat→Int):(bs22 2 #[(0,.agg (vs .u8 32 a)),(1,.agg (vs .u8 32 b))]).run Tryz.prog W=.ok (.slice (some ⟨W.heap.size,0,none⟩) 2 2) (W.alloc (.cells (vs .u8 64 (fl7 [a,b])) 24)):=by kernel_rfl
theorem bs22_4 (W:World) (a b c d:Nat→Int):(bs22 4 #[(0,.agg (vs .u8 32 a)),(1,.agg (vs .u8 32 b)),(2,.agg (vs .u8 32 c)),(3,.agg (vs .u8 32 d))]).run Tryz.prog W=.ok (.slice (some ⟨W.heap.size,0,none⟩) 4 4) (W.alloc (.cells (vs .u8 128 (fl7 [a,b,c,d])) 24)):=by kernel_rfl
def hExit (x:VExit):Nat→Int:=treeV (fl7 [bR (nmB x.f0) 8,bR (nmB x.f1) 8]) 2 (2:Nat)
theorem hExit_bd {x:VExit} (hx:OkExit x) (j:Nat) (hj:j < 32):0≤hExit x j∧hExit x j < 256:=by
 refine treeV_bd (fl7_bd (fun c hc=>?_) _) _ j hj
 simp only [List.mem_cons,List.not_mem_nil,or_false] at hc
 rcases hc with rfl | rfl
 ·exact fun j hj=>treeV_bd (pk_bd (fun j _=>nmB_bd _ j) _) _ j hj
 ·exact fun j hj=>treeV_bd (pk_bd (fun j _=>nmB_bd _ j) _) _ j hj
def hDepositData (x:VDepositData):Nat→Int:=treeV (fl7 [bR x.f0 48,bR x.f1 32,bR (nmB x.f2) 8,bR x.f3 96]) 4 (4:Nat)
theorem hDepositData_bd {x:VDepositData} (hx:OkDepositData x) (j:Nat) (hj:j < 32):0≤hDepositData x j∧hDepositData x j < 256:=by
 refine treeV_bd (fl7_bd (fun c hc=>?_) _) _ j hj
 simp only [List.mem_cons,List.not_mem_nil,or_false] at hc
 rcases hc with rfl | rfl | rfl | rfl
 ·exact fun j hj=>treeV_bd (pk_bd hx.1 _) _ j hj
 ·exact fun j hj=>treeV_bd (pk_bd hx.2.1 _) _ j hj
 ·exact fun j hj=>treeV_bd (pk_bd (fun j _=>nmB_bd _ j) _) _ j hj
 ·exact fun j hj=>treeV_bd (pk_bd hx.2.2.2 _) _ j hj
end
section
open Go.RowKit
set_option linter.unusedVariables false
set_option linter.unusedSimpArgs false
def rdN (f:Nat→Int):Int:=Z.num8 (f 0) (f 1) (f 2) (f 3) (f 4) (f 5) (f 6) (f 7)
theorem bys_at {w:World} {a:Option Addr} {n cap:Nat} {f:Nat→Int} (h:Bys w a n cap f) (hn:0 < n):∃ b off,a=some ⟨b,off,none⟩∧b < w.heap.size∧n≤cap∧∀ j,j < n→w.cell? ⟨b,off+j,none⟩=some (.int .u8 (f j)):=by
 rcases h with ⟨_,h,_⟩ | ⟨_,_,h⟩ | ⟨b,off,h1,h2,h3,h4,h5⟩
 ·omega
 ·omega
 ·exact ⟨b,off,h1,h4,h2,h5⟩
end
section
open Go.RowKit
set_option linter.unusedVariables false
set_option linter.unusedSimpArgs false
attribute [local go_sem ↓] sv24_eq lv24_eq ix22_eq slr_eq bd27_eq bs22_eq sv8_eq mkI_eq ixI_eq ixP_eq bsP_eq
def bsI (n:Nat) (ps:Array (Nat × Value)):Sem Value:=Instr.buildSlice 131 n ps
theorem bsI_eq (n:Nat) (ps:Array (Nat × Value)):Instr.buildSlice 131 n ps=bsI n ps:=rfl
end
section
open Go.RowKit
set_option linter.unusedVariables false
set_option linter.unusedSimpArgs false
def zl7 (l:List Int) (i:Nat):Int:=l.getD i 0
def oFork:VFork:=⟨fun _=>0,fun _=>0,0⟩
def zFork:Nat→Int:=zl7 [4,4,8]
theorem bsI_Fork (W:World):(bsI 3 #[(0,.int .i64 4),(1,.int .i64 4),(2,.int .i64 8)]).run Tryz.prog W=.ok (.slice (some ⟨W.heap.size,0,none⟩) 3 3) (W.alloc (.cells (vs .i64 3 zFork) 3)):=by kernel_rfl
def svFork (a:Addr) (v:Value):Sem Unit:=storeVar 28 a v
theorem svFork_eq (a:Addr) (v:Value):storeVar 28 a v=svFork a v:=rfl
def bdFork (ps:Array (Nat × Value)):Sem Value:=Instr.build 28 ps
theorem bdFork_eq (ps:Array (Nat × Value)):Instr.build 28 ps=bdFork ps:=rfl
def oCheckpoint:VCheckpoint:=⟨0,fun _=>0⟩
def zCheckpoint:Nat→Int:=zl7 [8,32]
theorem bsI_Checkpoint (W:World):(bsI 2 #[(0,.int .i64 8),(1,.int .i64 32)]).run Tryz.prog W=.ok (.slice (some ⟨W.heap.size,0,none⟩) 2 2) (W.alloc (.cells (vs .i64 2 zCheckpoint) 3)):=by kernel_rfl
def svCheckpoint (a:Addr) (v:Value):Sem Unit:=storeVar 42 a v
theorem svCheckpoint_eq (a:Addr) (v:Value):storeVar 42 a v=svCheckpoint a v:=rfl
def bdCheckpoint (ps:Array (Nat × Value)):Sem Value:=Instr.build 42 ps
theorem bdCheckpoint_eq (ps:Array (Nat × Value)):Instr.build 42 ps=bdCheckpoint ps:=rfl
def oValidator:VValidator:=⟨fun _=>0,fun _=>0,0,false,0,0,0,0⟩
def zValidator:Nat→Int:=zl7 [48,32,8,1,8,8,8,8]
theorem bsI_Validator (W:World):(bsI 8 #[(0,.int .i64 48),(1,.int .i64 32),(2,.int .i64 8),(3,.int .i64 1),(4,.int .i64 8),(5,.int .i64 8),(6,.int .i64 8),(7,.int .i64 8)]).run Tryz.prog W=.ok (.slice (some ⟨W.heap.size,0,none⟩) 8 8) (W.alloc (.cells (vs .i64 8 zValidator) 3)):=by kernel_rfl
def svValidator (a:Addr) (v:Value):Sem Unit:=storeVar 74 a v
theorem svValidator_eq (a:Addr) (v:Value):storeVar 74 a v=svValidator a v:=rfl
def bdValidator (ps:Array (Nat × Value)):Sem Value:=Instr.build 74 ps
theorem bdValidator_eq (ps:Array (Nat × Value)):Instr.build 74 ps=bdValidator ps:=rfl
theorem zeroValidator (W:World):(zeroValue 74).run Tryz.prog W=.ok (.agg (cel (sValidator oValidator))) W:=by kernel_rfl
theorem slValidator (x:VValidator):slen (sValidator x)=86:=rfl
theorem svValidator_run {w:World} {b:Nat} {o:VValidator} {t:TypeId} (h:w.heap[b]?=some (.cells (cel (sValidator o)) t)) (c:VValidator):(svValidator ⟨b,0,none⟩ (.agg (cel (sValidator c)))).run Tryz.prog w=.ok () (w.setRow b (cel (sValidator c))) :=
 run_storeVar_row w b t 74 _ _ h (by rw [cel_size,slValidator];kernel_rfl) (by rw [cel_size,cel_size,slValidator,slValidator]) (cel_one _)
theorem svValidator_newv (W:World) (o c:VValidator):(svValidator ⟨W.heap.size,0,none⟩ (.agg (cel (sValidator c)))).run Tryz.prog (W.alloc (.cells (cel (sValidator o)) 74))=.ok () (W.alloc (.cells (cel (sValidator c)) 74)) :=
 run_storeVar_new W 74 _ _ (by rw [cel_size,slValidator];kernel_rfl) (by rw [cel_size,cel_size,slValidator,slValidator]) (cel_one _)
def oEth1:VEth1:=⟨fun _=>0,0,fun _=>0⟩
def zEth1:Nat→Int:=zl7 [32,8,32]
theorem bsI_Eth1 (W:World):(bsI 3 #[(0,.int .i64 32),(1,.int .i64 8),(2,.int .i64 32)]).run Tryz.prog W=.ok (.slice (some ⟨W.heap.size,0,none⟩) 3 3) (W.alloc (.cells (vs .i64 3 zEth1) 3)):=by kernel_rfl
def svEth1 (a:Addr) (v:Value):Sem Unit:=storeVar 34 a v
theorem svEth1_eq (a:Addr) (v:Value):storeVar 34 a v=svEth1 a v:=rfl
def bdEth1 (ps:Array (Nat × Value)):Sem Value:=Instr.build 34 ps
theorem bdEth1_eq (ps:Array (Nat × Value)):Instr.build 34 ps=bdEth1 ps:=rfl
def oHeader:VHeader:=⟨0,0,fun _=>0,fun _=>0,fun _=>0⟩
def zHeader:Nat→Int:=zl7 [8,8,32,32,32]
theorem bsI_Header (W:World):(bsI 5 #[(0,.int .i64 8),(1,.int .i64 8),(2,.int .i64 32),(3,.int .i64 32),(4,.int .i64 32)]).run Tryz.prog W=.ok (.slice (some ⟨W.heap.size,0,none⟩) 5 5) (W.alloc (.cells (vs .i64 5 zHeader) 3)):=by kernel_rfl
def svHeader (a:Addr) (v:Value):Sem Unit:=storeVar 30 a v
theorem svHeader_eq (a:Addr) (v:Value):storeVar 30 a v=svHeader a v:=rfl
def bdHeader (ps:Array (Nat × Value)):Sem Value:=Instr.build 30 ps
theorem bdHeader_eq (ps:Array (Nat × Value)):Instr.build 30 ps=bdHeader ps:=rfl
def oExit:VExit:=⟨0,0⟩
def svExit (a:Addr) (v:Value):Sem Unit:=storeVar 70 a v
theorem svExit_eq (a:Addr) (v:Value):storeVar 70 a v=svExit a v:=rfl
def bdExit (ps:Array (Nat × Value)):Sem Value:=Instr.build 70 ps
theorem bdExit_eq (ps:Array (Nat × Value)):Instr.build 70 ps=bdExit ps:=rfl
def oDepositData:VDepositData:=⟨fun _=>0,fun _=>0,0,fun _=>0⟩
def svDepositData (a:Addr) (v:Value):Sem Unit:=storeVar 58 a v
theorem svDepositData_eq (a:Addr) (v:Value):storeVar 58 a v=svDepositData a v:=rfl
def bdDepositData (ps:Array (Nat × Value)):Sem Value:=Instr.build 58 ps
theorem bdDepositData_eq (ps:Array (Nat × Value)):Instr.build 58 ps=bdDepositData ps:=rfl
set_option maxRecDepth 20000 in
theorem slDepositData (x:VDepositData):slen (sDepositData x)=177:=rfl
def oSignedExit:VSignedExit:=⟨oExit,fun _=>0⟩
def svSignedExit (a:Addr) (v:Value):Sem Unit:=storeVar 72 a v
theorem svSignedExit_eq (a:Addr) (v:Value):storeVar 72 a v=svSignedExit a v:=rfl
def bdSignedExit (ps:Array (Nat × Value)):Sem Value:=Instr.build 72 ps
theorem bdSignedExit_eq (ps:Array (Nat × Value)):Instr.build 72 ps=bdSignedExit ps:=rfl
theorem bdSignedExit_0 (W:World):(bdSignedExit #[]).run Tryz.prog W=.ok (.agg (cel (sSignedExit oSignedExit))) W:=by kernel_rfl
end
section
open Go.RowKit
set_option linter.unusedVariables false
set_option linter.unusedSimpArgs false
attribute [local go_sem ↓] sv24_eq lv24_eq ix22_eq slr_eq bd27_eq bs22_eq sv8_eq mkI_eq ixI_eq ixP_eq bsP_eq lvCheckpoint_eq lvHeader_eq lvExit_eq
set_option maxRecDepth 20000 in
set_option maxHeartbeats 2000000 in
theorem rootExit_any (x : VExit) (w : World) (hx : OkExit x) (hS : Sh w) :
    Calls Tryz.prog 76 #[.agg (cel (sExit x))] w fun e w'=>e=.returned (.agg (vs .u8 32 (hExit x)))∧Below w.heap.size w w':=by
 have z:=zero_root
 obtain ⟨W1,hW1⟩:∃ W,w.alloc (.cells (cel (sExit x)) 70)=W:=⟨_,rfl⟩
 obtain ⟨W0,hW0⟩:∃ W,W1.alloc (.cells (vs .u8 32 fun _=>0) 24)=W:=⟨_,rfl⟩
 have hB1:Below w.heap.size w W1:=by rw [←hW1];exact (Below.refl _ _).alloc (Nat.le_refl _) _
 have z1:W1.heap.size=w.heap.size+1:=by rw [←hW1];simp
 have z0:W0.heap.size=w.heap.size+2:=by rw [←hW0];simp [z1]
 have hB0:Below w.heap.size w W0:=by rw [←hW0];exact hB1.alloc (by omega) _
 have r1:W1.heap[w.heap.size]?=some (.cells (cel (sExit x)) 70):=by rw [←hW1];exact heap_new rfl
 have r0:W0.heap[w.heap.size]?=some (.cells (cel (sExit x)) 70):=by rw [←hW0];exact (heap_old (by omega)).trans r1
 have rr:W0.heap[w.heap.size+1]?=some (.cells (vs .u8 32 fun _=>0) 24):=by rw [←hW0];exact heap_new (by omega)
 obtain ⟨y,ey⟩:∃ y,w.heap.size=y:=⟨_,rfl⟩
 have hy1:y+1≤W0.heap.size:=by omega
 have hry:∀ X,Below (y+1) W0 X→X.heap[y]?=some (.cells (cel (sExit x)) 70):=fun X h=>by rw [←ey];exact (h.block _ (by omega)).trans r0
 have hrr:∀ X,Below W0.heap.size W0 X→X.heap[y+1]?=some (.cells (vs .u8 32 fun _=>0) 24):=fun X h=>by rw [←ey];exact (h.block _ (by omega)).trans rr
 have hSh:∀ X,Below W0.heap.size W0 X→Sh X:=fun X h=>(hS.below hB0).below h
 have hc0:∀ X,Below W0.heap.size W0 X→Calls Tryz.prog 48 #[.int .u64 x.f0] X fun e w'=>e=.returned (.agg (vs .u8 32 (bR (nmB x.f0) 8)))∧Below X.heap.size X w':=fun X h=>nroot7 x.f0 X hx.1.1 hx.1.2 (hSh X h)
 have hd0:∀ j,j < 32→0≤(bR (nmB x.f0) 8) j∧(bR (nmB x.f0) 8) j < 256:=fun j hj=>treeV_bd (pk_bd (fun j _=>nmB_bd _ j) _) _ j hj
 have HL0:Hid (∀ X,Below (y+1) W0 X→X.cell? ⟨y,0,none⟩=some (.int .u64 x.f0)):=fun X h=>seg_nu (hry X h) 0 x.f0 rfl 0 rfl
 have hc1:∀ X,Below W0.heap.size W0 X→Calls Tryz.prog 48 #[.int .u64 x.f1] X fun e w'=>e=.returned (.agg (vs .u8 32 (bR (nmB x.f1) 8)))∧Below X.heap.size X w':=fun X h=>nroot7 x.f1 X hx.2.1 hx.2.2 (hSh X h)
 have hd1:∀ j,j < 32→0≤(bR (nmB x.f1) 8) j∧(bR (nmB x.f1) 8) j < 256:=fun j hj=>treeV_bd (pk_bd (fun j _=>nmB_bd _ j) _) _ j hj
 have HL1:Hid (∀ X,Below (y+1) W0 X→X.cell? ⟨y,1,none⟩=some (.int .u64 x.f1)):=fun X h=>seg_nu (hry X h) 1 x.f1 rfl 1 rfl
 have eh:hExit x=treeV (fl7 [bR (nmB x.f0) 8,bR (nmB x.f1) 8]) 2 (2:Nat):=rfl
 obtain ⟨C0,eC0⟩:∃ C,bR (nmB x.f0) 8=C:=⟨_,rfl⟩
 rw [eC0] at hc0 hd0 eh
 obtain ⟨C1,eC1⟩:∃ C,bR (nmB x.f1) 8=C:=⟨_,rfl⟩
 rw [eC1] at hc1 hd1 eh
 have hro:∀ X g,Below W0.heap.size W0 X→X.heap[g]?=some (.cells (vs .u8 64 (fl7 [C0,C1])) 24)→Calls Tryz.prog 46 #[.slice (some ⟨g,0,none⟩) 2 2] X fun e w'=>e=.returned (.agg (vs .u8 32 (hExit x)))∧Below X.heap.size X w':=fun X g h h2=>by
  rw [eh]
  exact rootof_any (some ⟨g,0,none⟩) 2 2 (fl7 [C0,C1]) X (rts_row (n:=2) h2) (by omega) (fl7_bd (fun c hc=>by
   simp only [List.mem_cons,List.not_mem_nil,or_false] at hc
   rcases hc with rfl | rfl
   ·exact hd0
   ·exact hd1
   ) _) (hSh X h)
 obtain ⟨D,eD⟩:∃ D,hExit x=D:=⟨_,rfl⟩
 rw [eD] at hro ⊢
 have HC0:=hid hc0
 have HC1:=hid hc1
 have HRO:=hid hro
 have HRR:=hid hrr
 have hdr:Below W0.heap.size W0 W0.drew:=(Below.refl _ _).drew
 have S0:=hid hdr
 have HB0w:=hid hB0
 have EY:=hid ey
 have Z0:=hid z0
 have HY1:=hid hy1
 clear hy1 hdr hB0 r0 r1 rr hry hrr hx hro hSh hS hB1 hc0 hd0 eC0 hc1 hd1 eC1 eh eD
 go_enter Tryz.func76,Tryz.ntmps76
 go_upto_region 1 with fail
 clear hW0 hW1 ey z0 z1 z
 refine wp_region_noPanic ?_
 refine wp_region_held_drew (S:=fun X=>Below (y+1) W0 X) (by kernel_rfl) (S0.out.mono HY1.out) (fun hHeld=>?_)
 refine tk 0 (v:=?v53) ?y53 hHeld ?r53
 case y53=>intro w hSw;go_simp;try with_reducible rfl
 refine tk 1 (v:=?v54) ?y54 hHeld ?r54
 case y54=>intro w hSw;have ld:=HL0.out _ hSw;go_simp;try with_reducible rfl
 refine tk 3 (v:=?v55) ?y55 hHeld ?r55
 case y55=>intro w hSw;go_simp;try with_reducible rfl
 refine tk 4 (v:=?v56) ?y56 hHeld ?r56
 case y56=>intro w hSw;have ld:=HL1.out _ hSw;go_simp;try with_reducible rfl
 try simp only [Act.put,z_1,z_2,z_3,z_4,z_5,z_6,z_7]
 refine wpAnyH_ready (rs:=[2]) (by kernel_rfl) (by simp) ?_
 refine AllReadyH.cons rfl (fun K hK=>?_) AllReadyH.nil
 go_simp
 refine (HC0.out _ S0.out).mono ?_
 rintro e X1 ⟨rfl,hb1⟩
 dsimp only
 have S1:=hid (S0.out.trans (hb1.mono S0.out.size))
 clear hb1
 refine hK.out _ _ (S1.out.mono HY1.out) (fun hHeld=>?_)
 clear hK K
 try simp only [Act.put,z_1,z_2,z_3,z_4,z_5,z_6,z_7]
 refine wpAnyH_ready (rs:=[5]) (by kernel_rfl) (by simp) ?_
 refine AllReadyH.cons rfl (fun K hK=>?_) AllReadyH.nil
 go_simp
 refine (HC1.out _ S1.out).mono ?_
 rintro e X2 ⟨rfl,hb2⟩
 dsimp only
 have S2:=hid (S1.out.trans (hb2.mono S1.out.size))
 clear hb2
 refine hK.out _ _ (S2.out.mono HY1.out) (fun hHeld=>?_)
 clear hK K
 try simp only [Act.put,z_1,z_2,z_3,z_4,z_5,z_6,z_7]
 have bs:=bs22_2 X2 C0 C1
 have hBn:Below X2.heap.size X2 (X2.alloc (.cells (vs .u8 64 (fl7 [C0,C1])) 24)):=(Below.refl _ _).alloc (Nat.le_refl _) _
 have HBN:=hid (S2.out.trans (hBn.mono S2.out.size))
 have HLA:=hid (HRO.out (X2.alloc (.cells (vs .u8 64 (fl7 [C0,C1])) 24)) X2.heap.size HBN.out (heap_new rfl))
 clear hBn
 refine wpAnyH_ready (rs:=[6]) (by kernel_rfl) (by simp) ?_
 refine AllReadyH.cons rfl (fun K hK=>?_) AllReadyH.nil
 go_simp
 refine hK.out _ _ (HBN.out.mono HY1.out) (fun hHeld=>?_)
 clear hK K bs
 try simp only [Act.put,z_1,z_2,z_3,z_4,z_5,z_6,z_7]
 refine wpAnyH_ready (rs:=[7]) (by kernel_rfl) (by simp) ?_
 refine AllReadyH.cons rfl (fun K hK=>?_) AllReadyH.nil
 go_simp
 refine (HLA.out).mono ?_
 rintro e Y ⟨rfl,hbY⟩
 dsimp only
 have HY:=hid (HBN.out.trans (hbY.mono HBN.out.size))
 clear hbY
 refine hK.out _ _ (HY.out.mono HY1.out) (fun hHeld=>?_)
 clear hK K
 try simp only [Act.put,z_1,z_2,z_3,z_4,z_5,z_6,z_7]
 have rY:=HRR.out _ HY.out
 have s1:=sv24_run rY D
 have RY:=hid rY
 clear rY
 refine wpAnyH_ready (rs:=[8]) (by kernel_rfl) (by simp) ?_
 refine AllReadyH.cons rfl (fun K hK=>?_) AllReadyH.nil
 go_simp
 refine hK.out _ _ (below_row (HY.out.mono HY1.out) (Nat.le_refl _) _) (fun hHeld=>?_)
 clear hK K s1
 try simp only [Act.put,z_1,z_2,z_3,z_4,z_5,z_6,z_7]
 refine wpAnyH_done (by kernel_rfl) ?_ _
 refine NoPanic.normal ?_
 go_wp2
 refine ret24 _ (y+1) _ 24 rfl rfl rfl (setRow_at RY.out) ⟨rfl,?_⟩
 have e0:=EY.out
 have e1:=Z0.out
 exact below_row (HB0w.out.trans (HY.out.mono (by omega))) (by omega) _
end
end Go.Proofs.YtfgmddnfhphdeaaGreatDoor
