/- A part. -/
import Derived.Test.YtdjplhibmomajaaGreatDoorCoA
import Derived.Deep.Onto
namespace Go.Proofs.YtdjplhibmomajaaGreatDoor
open Go.RowKit
set_option linter.unusedVariables false
set_option linter.unusedSimpArgs false
section
open Go.RowKit
set_option linter.unusedVariables false
set_option linter.unusedSimpArgs false
theorem aD7 {w:World} {g o:Nat} {C:Array Value} {t:TypeId} {l:List Value} (h:w.heap[g]?=some (.cells C t)) (hl:(C.toList.drop o).take l.length=l):w.rangeAt g o l:=by
 intro j v hj
 have hlt:=(List.getElem?_eq_some_iff.1 hj).1
 rw [aAs h,←hj]
 have e:((C.toList.drop o).take l.length)[j]?=l[j]?:=by rw [hl]
 rw [List.getElem?_take_of_lt hlt,List.getElem?_drop,Array.getElem?_toList] at e
 exact e
def aIw (a:Addr):Sem Value:=loadVar 28 a
theorem aCK (a:Addr):loadVar 28 a=aIw a:=rfl
theorem aJf {w:World} {g:Nat} {C:Array Value} {t:TypeId} {x:aFI} (h:w.heap[g]?=some (.cells C t)) (o:Nat) (hl:(C.toList.drop o).take (aAW (aEe x)).length=aAW (aEe x)) (hs:aCa (aEe x)=9):(aIw ⟨g,o,none⟩).run Tryz.prog w=.ok (.agg (cel (aEe x))) w :=
 aAP (run_loadAt_mid w g o 28 _ _ (aD7 h hl) Tryz.underlying28 rfl (by rw [aAC,hs];kernel_rfl))
def aBH (a:Addr):Sem Value:=loadVar 42 a
theorem aAG (a:Addr):loadVar 42 a=aBH a:=rfl
theorem aCC {w:World} {g:Nat} {C:Array Value} {t:TypeId} {x:aBd} (h:w.heap[g]?=some (.cells C t)) (o:Nat) (hl:(C.toList.drop o).take (aAW (aAJ x)).length=aAW (aAJ x)) (hs:aCa (aAJ x)=33):(aBH ⟨g,o,none⟩).run Tryz.prog w=.ok (.agg (cel (aAJ x))) w :=
 aAP (run_loadAt_mid w g o 42 _ _ (aD7 h hl) Tryz.underlying42 rfl (by rw [aAC,hs];kernel_rfl))
def aDc (a:Addr):Sem Value:=loadVar 65 a
theorem aAi (a:Addr):loadVar 65 a=aDc a:=rfl
def aGK (a:Addr):Sem Value:=loadVar 34 a
theorem aC9 (a:Addr):loadVar 34 a=aGK a:=rfl
theorem aJe {w:World} {g:Nat} {C:Array Value} {t:TypeId} {x:aDW} (h:w.heap[g]?=some (.cells C t)) (o:Nat) (hl:(C.toList.drop o).take (aAW (aBx x)).length=aAW (aBx x)) (hs:aCa (aBx x)=65):(aGK ⟨g,o,none⟩).run Tryz.prog w=.ok (.agg (cel (aBx x))) w :=
 aAP (run_loadAt_mid w g o 34 _ _ (aD7 h hl) Tryz.underlying34 rfl (by rw [aAC,hs];kernel_rfl))
def aBt (a:Addr):Sem Value:=loadVar 30 a
theorem aB8 (a:Addr):loadVar 30 a=aBt a:=rfl
theorem aGL {w:World} {g:Nat} {C:Array Value} {t:TypeId} {x:aB6} (h:w.heap[g]?=some (.cells C t)) (o:Nat) (hl:(C.toList.drop o).take (aAW (aAm x)).length=aAW (aAm x)) (hs:aCa (aAm x)=98):(aBt ⟨g,o,none⟩).run Tryz.prog w=.ok (.agg (cel (aAm x))) w :=
 aAP (run_loadAt_mid w g o 30 _ _ (aD7 h hl) Tryz.underlying30 rfl (by rw [aAC,hs];kernel_rfl))
def aBS (a:Addr):Sem Value:=loadVar 53 a
theorem aAY (a:Addr):loadVar 53 a=aBS a:=rfl
end
section
open Go.RowKit
set_option linter.unusedVariables false
set_option linter.unusedSimpArgs false
attribute [local go_sem ↓] aAu aAt aAF aB3 aAQ aAL aBJ aDz aDv aCU aC8 aAG aB8
end
section
open Go.RowKit
set_option linter.unusedVariables false
set_option linter.unusedSimpArgs false
def fl7 (rs:List (Nat→Int)) (q:Nat):Int:=(rs.getD (q / 32) (fun _=>0)) (q % 32)
theorem aKp {rs:List (Nat→Int)} (h:∀ c ∈ rs,∀ j,j < 32→0≤c j∧c j < 256) (n:Nat):ByB (fl7 rs) n:=fun q _=>by
 unfold fl7
 rw [List.getD_eq_getElem?_getD]
 cases e:rs[q / 32]? with
 | none => exact ⟨Int.le_refl _, by show (0 : Int) < 256; decide⟩
 | some c => exact h c (List.mem_of_getElem? e) _ (Nat.mod_lt _ (by decide))
theorem aR9 (W:World) (a b c d e:Nat→Int):(aT9 5 #[(0,.agg (vs .u8 32 a)),(1,.agg (vs .u8 32 b)),(2,.agg (vs .u8 32 c)),(3,.agg (vs .u8 32 d)),(4,.agg (vs .u8 32 e))]).run Tryz.prog W=.ok (.slice (some ⟨W.heap.size,0,none⟩) 5 5) (W.alloc (.cells (vs .u8 160 (fl7 [a,b,c,d,e])) 24)):=by kernel_rfl
def aBn (x:aB6):Nat→Int:=aCf (fl7 [bR (nmB x.f0) 8,bR (nmB x.f1) 8,bR x.f2 32,bR x.f3 32,bR x.f4 32]) 5 (5:Nat)
end
section
open Go.RowKit
set_option linter.unusedVariables false
set_option linter.unusedSimpArgs false
def rdN (f:Nat→Int):Int:=Z.aFx (f 0) (f 1) (f 2) (f 3) (f 4) (f 5) (f 6) (f 7)
theorem aIb {w:World} {a:Option Addr} {n cap:Nat} {f:Nat→Int} (h:Bys w a n cap f) (hn:0 < n):∃ b off,a=some ⟨b,off,none⟩∧b < w.heap.size∧n≤cap∧∀ j,j < n→w.cell? ⟨b,off+j,none⟩=some (.int .u8 (f j)):=by
 rcases h with ⟨_,h,_⟩ | ⟨_,_,h⟩ | ⟨b,off,h1,h2,h3,h4,h5⟩
 ·omega
 ·omega
 ·exact ⟨b,off,h1,h4,h2,h5⟩
end
section
open Go.RowKit
set_option linter.unusedVariables false
set_option linter.unusedSimpArgs false
attribute [local go_sem ↓] aAu aAt aAF aB3 aAQ aAL aBJ aDz aDv aCU aC8
def bsI (n:Nat) (ps:Array (Nat × Value)):Sem Value:=Instr.buildSlice 115 n ps
theorem aCx (n:Nat) (ps:Array (Nat × Value)):Instr.buildSlice 115 n ps=bsI n ps:=rfl
end
section
open Go.RowKit
set_option linter.unusedVariables false
set_option linter.unusedSimpArgs false
def zl7 (l:List Int) (i:Nat):Int:=l.getD i 0
theorem aNE (l:List Seg):((cel l).toList.drop 0).take (aAW l).length=aAW l:=by simp [cel]
def aTF:aFI:=⟨fun _=>0,fun _=>0,0⟩
def aNK:Nat→Int:=zl7 [4,4,8]
theorem aMw (W:World):(bsI 3 #[(0,.int .i64 4),(1,.int .i64 4),(2,.int .i64 8)]).run Tryz.prog W=.ok (.slice (some ⟨W.heap.size,0,none⟩) 3 3) (W.alloc (.cells (vs .i64 3 aNK) 3)):=by kernel_rfl
def aSV (a:Addr) (v:Value):Sem Unit:=storeVar 28 a v
theorem aD8 (a:Addr) (v:Value):storeVar 28 a v=aSV a v:=rfl
def aR2 (ps:Array (Nat × Value)):Sem Value:=Instr.build 28 ps
theorem aDq (ps:Array (Nat × Value)):Instr.build 28 ps=aR2 ps:=rfl
def aE0:aBd:=⟨0,fun _=>0⟩
def aDk:Nat→Int:=zl7 [8,32]
theorem aFn (W:World):(bsI 2 #[(0,.int .i64 8),(1,.int .i64 32)]).run Tryz.prog W=.ok (.slice (some ⟨W.heap.size,0,none⟩) 2 2) (W.alloc (.cells (vs .i64 2 aDk) 3)):=by kernel_rfl
def aHi (a:Addr) (v:Value):Sem Unit:=storeVar 42 a v
theorem aBo (a:Addr) (v:Value):storeVar 42 a v=aHi a v:=rfl
def aGC (ps:Array (Nat × Value)):Sem Value:=Instr.build 42 ps
theorem aBC (ps:Array (Nat × Value)):Instr.build 42 ps=aGC ps:=rfl
def aBe:aA5:=⟨fun _=>0,fun _=>0,0,false,0,0,0,0⟩
def aDN:Nat→Int:=zl7 [48,32,8,1,8,8,8,8]
theorem aFN (W:World):(bsI 8 #[(0,.int .i64 48),(1,.int .i64 32),(2,.int .i64 8),(3,.int .i64 1),(4,.int .i64 8),(5,.int .i64 8),(6,.int .i64 8),(7,.int .i64 8)]).run Tryz.prog W=.ok (.slice (some ⟨W.heap.size,0,none⟩) 8 8) (W.alloc (.cells (vs .i64 8 aDN) 3)):=by kernel_rfl
def aE3 (a:Addr) (v:Value):Sem Unit:=storeVar 65 a v
theorem aAl (a:Addr) (v:Value):storeVar 65 a v=aE3 a v:=rfl
def aHr (ps:Array (Nat × Value)):Sem Value:=Instr.build 65 ps
theorem aBR (ps:Array (Nat × Value)):Instr.build 65 ps=aHr ps:=rfl
theorem aBP (W:World):(zeroValue 65).run Tryz.prog W=.ok (.agg (cel (aA3 aBe))) W:=by kernel_rfl
theorem aDg (x:aA5):aCa (aA3 x)=86:=rfl
theorem aBj (W:World) (o c:aA5):(aE3 ⟨W.heap.size,0,none⟩ (.agg (cel (aA3 c)))).run Tryz.prog (W.alloc (.cells (cel (aA3 o)) 65))=.ok () (W.alloc (.cells (cel (aA3 c)) 65)) :=
 run_storeVar_new W 65 _ _ (by rw [aAT,aDg];kernel_rfl) (by rw [aAT,aAT,aDg,aDg]) (aEo _)
def aGO:aDW:=⟨fun _=>0,0,fun _=>0⟩
def aNJ:Nat→Int:=zl7 [32,8,32]
theorem aMv (W:World):(bsI 3 #[(0,.int .i64 32),(1,.int .i64 8),(2,.int .i64 32)]).run Tryz.prog W=.ok (.slice (some ⟨W.heap.size,0,none⟩) 3 3) (W.alloc (.cells (vs .i64 3 aNJ) 3)):=by kernel_rfl
def aSU (a:Addr) (v:Value):Sem Unit:=storeVar 34 a v
theorem aCR (a:Addr) (v:Value):storeVar 34 a v=aSU a v:=rfl
def aR1 (ps:Array (Nat × Value)):Sem Value:=Instr.build 34 ps
theorem aDp (ps:Array (Nat × Value)):Instr.build 34 ps=aR1 ps:=rfl
def aF4:aB6:=⟨0,0,fun _=>0,fun _=>0,fun _=>0⟩
def aGv:Nat→Int:=zl7 [8,8,32,32,32]
theorem aJ5 (W:World):(bsI 5 #[(0,.int .i64 8),(1,.int .i64 8),(2,.int .i64 32),(3,.int .i64 32),(4,.int .i64 32)]).run Tryz.prog W=.ok (.slice (some ⟨W.heap.size,0,none⟩) 5 5) (W.alloc (.cells (vs .i64 5 aGv) 3)):=by kernel_rfl
def aIT (a:Addr) (v:Value):Sem Unit:=storeVar 30 a v
theorem aC2 (a:Addr) (v:Value):storeVar 30 a v=aIT a v:=rfl
def aMt (ps:Array (Nat × Value)):Sem Value:=Instr.build 30 ps
theorem aCp (ps:Array (Nat × Value)):Instr.build 30 ps=aMt ps:=rfl
theorem aGi (x:aB6):aCa (aAm x)=98:=rfl
theorem aEi (W:World) (o c:aB6):(aIT ⟨W.heap.size,0,none⟩ (.agg (cel (aAm c)))).run Tryz.prog (W.alloc (.cells (cel (aAm o)) 30))=.ok () (W.alloc (.cells (cel (aAm c)) 30)) :=
 run_storeVar_new W 30 _ _ (by rw [aAT,aGi];kernel_rfl) (by rw [aAT,aAT,aGi,aGi]) (aEo _)
def aEb:aAM:=⟨aF4,fun _=>0⟩
def aDV (a:Addr) (v:Value):Sem Unit:=storeVar 53 a v
theorem aB4 (a:Addr) (v:Value):storeVar 53 a v=aDV a v:=rfl
def aFm (ps:Array (Nat × Value)):Sem Value:=Instr.build 53 ps
theorem aBl (ps:Array (Nat × Value)):Instr.build 53 ps=aFm ps:=rfl
set_option maxRecDepth 20000 in
theorem aD0 (x:aAM):aCa (aAf x)=194:=rfl
theorem aE2 (W:World) (o c:aAM):(aDV ⟨W.heap.size,0,none⟩ (.agg (cel (aAf c)))).run Tryz.prog (W.alloc (.cells (cel (aAf o)) 53))=.ok () (W.alloc (.cells (cel (aAf c)) 53)) :=
 run_storeVar_new W 53 _ _ (by rw [aAT,aD0];kernel_rfl) (by rw [aAT,aAT,aD0,aD0]) (aEo _)
end
section
open Go.RowKit
set_option linter.unusedVariables false
set_option linter.unusedSimpArgs false
attribute [local go_sem ↓] aAu aAt aAF aB3 aAQ aAL aBJ aDz aDv aCU aC8 aAG aB8
set_option maxRecDepth 20000 in
set_option maxHeartbeats 2000000 in
theorem aFq (x : aB6) (w : World) (hx : aBV x) (hS : Sh w) :
    Calls Tryz.prog 43 #[.agg (cel (aAm x))] w fun e w'=>e=.returned (.agg (vs .u8 32 (aBn x)))∧Below w.heap.size w w':=by
 have z:=aAj
 obtain ⟨W1,hW1⟩:∃ W,w.alloc (.cells (cel (aAm x)) 30)=W:=⟨_,rfl⟩
 obtain ⟨W0,hW0⟩:∃ W,W1.alloc (.cells (vs .u8 32 fun _=>0) 24)=W:=⟨_,rfl⟩
 have hB1:Below w.heap.size w W1:=by rw [←hW1];exact (Below.refl _ _).alloc (Nat.le_refl _) _
 have z1:W1.heap.size=w.heap.size+1:=by rw [←hW1];simp
 have z0:W0.heap.size=w.heap.size+2:=by rw [←hW0];simp [z1]
 have hB0:Below w.heap.size w W0:=by rw [←hW0];exact hB1.alloc (by omega) _
 have r1:W1.heap[w.heap.size]?=some (.cells (cel (aAm x)) 30):=by rw [←hW1];exact aA2 rfl
 have r0:W0.heap[w.heap.size]?=some (.cells (cel (aAm x)) 30):=by rw [←hW0];exact (aAc (by omega)).trans r1
 have rr:W0.heap[w.heap.size+1]?=some (.cells (vs .u8 32 fun _=>0) 24):=by rw [←hW0];exact aA2 (by omega)
 obtain ⟨y,ey⟩:∃ y,w.heap.size=y:=⟨_,rfl⟩
 have hy1:y+1≤W0.heap.size:=by omega
 have hry:∀ X,Below (y+1) W0 X→X.heap[y]?=some (.cells (cel (aAm x)) 30):=fun X h=>by rw [←ey];exact (h.block _ (by omega)).trans r0
 have hrr:∀ X,Below W0.heap.size W0 X→X.heap[y+1]?=some (.cells (vs .u8 32 fun _=>0) 24):=fun X h=>by rw [←ey];exact (h.block _ (by omega)).trans rr
 have hSh:∀ X,Below W0.heap.size W0 X→Sh X:=fun X h=>(hS.below hB0).below h
 have hc0:∀ X,Below W0.heap.size W0 X→Calls Tryz.prog 79 #[.int .u64 x.f0] X fun e w'=>e=.returned (.agg (vs .u8 32 (bR (nmB x.f0) 8)))∧Below X.heap.size X w':=fun X h=>aOv x.f0 X hx.1.1 hx.1.2 (hSh X h)
 have hd0:∀ j,j < 32→0≤(bR (nmB x.f0) 8) j∧(bR (nmB x.f0) 8) j < 256:=fun j hj=>aC6 (aE1 (fun j _=>aDA _ j) _) _ j hj
 have HL0:Hid (∀ X,Below (y+1) W0 X→X.cell? ⟨y,0,none⟩=some (.int .u64 x.f0)):=fun X h=>aAH (hry X h) 0 x.f0 rfl 0 rfl
 have hc1:∀ X,Below W0.heap.size W0 X→Calls Tryz.prog 79 #[.int .u64 x.f1] X fun e w'=>e=.returned (.agg (vs .u8 32 (bR (nmB x.f1) 8)))∧Below X.heap.size X w':=fun X h=>aOv x.f1 X hx.2.1.1 hx.2.1.2 (hSh X h)
 have hd1:∀ j,j < 32→0≤(bR (nmB x.f1) 8) j∧(bR (nmB x.f1) 8) j < 256:=fun j hj=>aC6 (aE1 (fun j _=>aDA _ j) _) _ j hj
 have HL1:Hid (∀ X,Below (y+1) W0 X→X.cell? ⟨y,1,none⟩=some (.int .u64 x.f1)):=fun X h=>aAH (hry X h) 1 x.f1 rfl 1 rfl
 have hc2:∀ X,Below W0.heap.size W0 X→Calls Tryz.prog 80 #[.slice (some ⟨y,2,none⟩) 32 32] X fun e w'=>e=.returned (.agg (vs .u8 32 (bR x.f2 32)))∧Below X.heap.size X w':=fun X h=>aE6 _ 32 32 x.f2 X (aBT (hry X (h.mono hy1)) 2 32 x.f2 rfl 2 rfl (by omega)) (by omega) hx.2.2.1 (hSh X h)
 have hd2:∀ j,j < 32→0≤(bR x.f2 32) j∧(bR x.f2 32) j < 256:=fun j hj=>aC6 (aE1 hx.2.2.1 _) _ j hj
 have hc3:∀ X,Below W0.heap.size W0 X→Calls Tryz.prog 80 #[.slice (some ⟨y,34,none⟩) 32 32] X fun e w'=>e=.returned (.agg (vs .u8 32 (bR x.f3 32)))∧Below X.heap.size X w':=fun X h=>aE6 _ 32 32 x.f3 X (aBT (hry X (h.mono hy1)) 3 32 x.f3 rfl 34 rfl (by omega)) (by omega) hx.2.2.2.1 (hSh X h)
 have hd3:∀ j,j < 32→0≤(bR x.f3 32) j∧(bR x.f3 32) j < 256:=fun j hj=>aC6 (aE1 hx.2.2.2.1 _) _ j hj
 have hc4:∀ X,Below W0.heap.size W0 X→Calls Tryz.prog 80 #[.slice (some ⟨y,66,none⟩) 32 32] X fun e w'=>e=.returned (.agg (vs .u8 32 (bR x.f4 32)))∧Below X.heap.size X w':=fun X h=>aE6 _ 32 32 x.f4 X (aBT (hry X (h.mono hy1)) 4 32 x.f4 rfl 66 rfl (by omega)) (by omega) hx.2.2.2.2 (hSh X h)
 have hd4:∀ j,j < 32→0≤(bR x.f4 32) j∧(bR x.f4 32) j < 256:=fun j hj=>aC6 (aE1 hx.2.2.2.2 _) _ j hj
 have eh:aBn x=aCf (fl7 [bR (nmB x.f0) 8,bR (nmB x.f1) 8,bR x.f2 32,bR x.f3 32,bR x.f4 32]) 5 (5:Nat):=rfl
 obtain ⟨C0,eC0⟩:∃ C,bR (nmB x.f0) 8=C:=⟨_,rfl⟩
 rw [eC0] at hc0 hd0 eh
 obtain ⟨C1,eC1⟩:∃ C,bR (nmB x.f1) 8=C:=⟨_,rfl⟩
 rw [eC1] at hc1 hd1 eh
 obtain ⟨C2,eC2⟩:∃ C,bR x.f2 32=C:=⟨_,rfl⟩
 rw [eC2] at hc2 hd2 eh
 obtain ⟨C3,eC3⟩:∃ C,bR x.f3 32=C:=⟨_,rfl⟩
 rw [eC3] at hc3 hd3 eh
 obtain ⟨C4,eC4⟩:∃ C,bR x.f4 32=C:=⟨_,rfl⟩
 rw [eC4] at hc4 hd4 eh
 have hro:∀ X g,Below W0.heap.size W0 X→X.heap[g]?=some (.cells (vs .u8 160 (fl7 [C0,C1,C2,C3,C4])) 24)→Calls Tryz.prog 78 #[.slice (some ⟨g,0,none⟩) 5 5] X fun e w'=>e=.returned (.agg (vs .u8 32 (aBn x)))∧Below X.heap.size X w':=fun X g h h2=>by
  rw [eh]
  exact aFD (some ⟨g,0,none⟩) 5 5 (fl7 [C0,C1,C2,C3,C4]) X (aEv (n:=5) h2) (by omega) (aKp (fun c hc=>by
   simp only [List.mem_cons,List.not_mem_nil,or_false] at hc
   rcases hc with rfl | rfl | rfl | rfl | rfl
   ·exact hd0
   ·exact hd1
   ·exact hd2
   ·exact hd3
   ·exact hd4
   ) _) (hSh X h)
 obtain ⟨D,eD⟩:∃ D,aBn x=D:=⟨_,rfl⟩
 rw [eD] at hro ⊢
 have HC0:=hid hc0
 have HC1:=hid hc1
 have HC2:=hid hc2
 have HC3:=hid hc3
 have HC4:=hid hc4
 have HRO:=hid hro
 have HRR:=hid hrr
 have hdr:Below W0.heap.size W0 W0.drew:=(Below.refl _ _).drew
 have S0:=hid hdr
 have HB0w:=hid hB0
 have EY:=hid ey
 have Z0:=hid z0
 have HY1:=hid hy1
 clear hy1 hdr hB0 r0 r1 rr hry hrr hx hro hSh hS hB1 hc0 hd0 eC0 hc1 hd1 eC1 hc2 hd2 eC2 hc3 hd3 eC3 hc4 hd4 eC4 eh eD
 go_enter Tryz.func43,Tryz.ntmps43
 go_upto_region 1 with fail
 clear hW0 hW1 ey z0 z1 z
 refine wp_region_noPanic ?_
 refine wp_region_held_drew (S:=fun X=>Below (y+1) W0 X) (by kernel_rfl) (S0.out.mono HY1.out) (fun hHeld=>?_)
 refine tk 0 (v:=?v43) ?y43 hHeld ?r43
 case y43=>intro w hSw;go_simp;try with_reducible rfl
 refine tk 1 (v:=?v44) ?y44 hHeld ?r44
 case y44=>intro w hSw;have ld:=HL0.out _ hSw;go_simp;try with_reducible rfl
 refine tk 3 (v:=?v45) ?y45 hHeld ?r45
 case y45=>intro w hSw;go_simp;try with_reducible rfl
 refine tk 4 (v:=?v46) ?y46 hHeld ?r46
 case y46=>intro w hSw;have ld:=HL1.out _ hSw;go_simp;try with_reducible rfl
 refine tk 6 (v:=?v47) ?y47 hHeld ?r47
 case y47=>intro w hSw;go_simp;try with_reducible rfl
 refine tk 7 (v:=?v48) ?y48 hHeld ?r48
 case y48=>intro w hSw;go_simp;try with_reducible rfl
 refine tk 9 (v:=?v49) ?y49 hHeld ?r49
 case y49=>intro w hSw;go_simp;try with_reducible rfl
 refine tk 10 (v:=?v50) ?y50 hHeld ?r50
 case y50=>intro w hSw;go_simp;try with_reducible rfl
 refine tk 12 (v:=?v51) ?y51 hHeld ?r51
 case y51=>intro w hSw;go_simp;try with_reducible rfl
 refine tk 13 (v:=?v52) ?y52 hHeld ?r52
 case y52=>intro w hSw;go_simp;try with_reducible rfl
 try simp only [Act.put,z_1,z_2,z_3,z_4,z_5,z_6,z_7]
 refine wpAnyH_ready (rs:=[2]) (by kernel_rfl) (by simp) ?_
 refine AllReadyH.cons rfl (fun K hK=>?_) AllReadyH.nil
 go_simp
 refine (HC0.out _ S0.out).mono ?_
 rintro e X1 ⟨rfl,hb1⟩
 dsimp only
 have S1:=hid (S0.out.trans (hb1.mono S0.out.size))
 clear hb1
 refine hK.out _ _ (S1.out.mono HY1.out) (fun hHeld=>?_)
 clear hK K
 try simp only [Act.put,z_1,z_2,z_3,z_4,z_5,z_6,z_7]
 refine wpAnyH_ready (rs:=[5]) (by kernel_rfl) (by simp) ?_
 refine AllReadyH.cons rfl (fun K hK=>?_) AllReadyH.nil
 go_simp
 refine (HC1.out _ S1.out).mono ?_
 rintro e X2 ⟨rfl,hb2⟩
 dsimp only
 have S2:=hid (S1.out.trans (hb2.mono S1.out.size))
 clear hb2
 refine hK.out _ _ (S2.out.mono HY1.out) (fun hHeld=>?_)
 clear hK K
 try simp only [Act.put,z_1,z_2,z_3,z_4,z_5,z_6,z_7]
 refine wpAnyH_ready (rs:=[8]) (by kernel_rfl) (by simp) ?_
 refine AllReadyH.cons rfl (fun K hK=>?_) AllReadyH.nil
 go_simp
 refine (HC2.out _ S2.out).mono ?_
 rintro e X3 ⟨rfl,hb3⟩
 dsimp only
 have S3:=hid (S2.out.trans (hb3.mono S2.out.size))
 clear hb3
 refine hK.out _ _ (S3.out.mono HY1.out) (fun hHeld=>?_)
 clear hK K
 try simp only [Act.put,z_1,z_2,z_3,z_4,z_5,z_6,z_7]
 refine wpAnyH_ready (rs:=[11]) (by kernel_rfl) (by simp) ?_
 refine AllReadyH.cons rfl (fun K hK=>?_) AllReadyH.nil
 go_simp
 refine (HC3.out _ S3.out).mono ?_
 rintro e X4 ⟨rfl,hb4⟩
 dsimp only
 have S4:=hid (S3.out.trans (hb4.mono S3.out.size))
 clear hb4
 refine hK.out _ _ (S4.out.mono HY1.out) (fun hHeld=>?_)
 clear hK K
 try simp only [Act.put,z_1,z_2,z_3,z_4,z_5,z_6,z_7]
 refine wpAnyH_ready (rs:=[14]) (by kernel_rfl) (by simp) ?_
 refine AllReadyH.cons rfl (fun K hK=>?_) AllReadyH.nil
 go_simp
 refine (HC4.out _ S4.out).mono ?_
 rintro e X5 ⟨rfl,hb5⟩
 dsimp only
 have S5:=hid (S4.out.trans (hb5.mono S4.out.size))
 clear hb5
 refine hK.out _ _ (S5.out.mono HY1.out) (fun hHeld=>?_)
 clear hK K
 try simp only [Act.put,z_1,z_2,z_3,z_4,z_5,z_6,z_7]
 have bs:=aR9 X5 C0 C1 C2 C3 C4
 have hBn:Below X5.heap.size X5 (X5.alloc (.cells (vs .u8 160 (fl7 [C0,C1,C2,C3,C4])) 24)):=(Below.refl _ _).alloc (Nat.le_refl _) _
 have HBN:=hid (S5.out.trans (hBn.mono S5.out.size))
 have HLA:=hid (HRO.out (X5.alloc (.cells (vs .u8 160 (fl7 [C0,C1,C2,C3,C4])) 24)) X5.heap.size HBN.out (aA2 rfl))
 clear hBn
 refine wpAnyH_ready (rs:=[15]) (by kernel_rfl) (by simp) ?_
 refine AllReadyH.cons rfl (fun K hK=>?_) AllReadyH.nil
 go_simp
 refine hK.out _ _ (HBN.out.mono HY1.out) (fun hHeld=>?_)
 clear hK K bs
 try simp only [Act.put,z_1,z_2,z_3,z_4,z_5,z_6,z_7]
 refine wpAnyH_ready (rs:=[16]) (by kernel_rfl) (by simp) ?_
 refine AllReadyH.cons rfl (fun K hK=>?_) AllReadyH.nil
 go_simp
 refine (HLA.out).mono ?_
 rintro e Y ⟨rfl,hbY⟩
 dsimp only
 have HY:=hid (HBN.out.trans (hbY.mono HBN.out.size))
 clear hbY
 refine hK.out _ _ (HY.out.mono HY1.out) (fun hHeld=>?_)
 clear hK K
 try simp only [Act.put,z_1,z_2,z_3,z_4,z_5,z_6,z_7]
 have rY:=HRR.out _ HY.out
 have s1:=aAv rY D
 have RY:=hid rY
 clear rY
 refine wpAnyH_ready (rs:=[17]) (by kernel_rfl) (by simp) ?_
 refine AllReadyH.cons rfl (fun K hK=>?_) AllReadyH.nil
 go_simp
 refine hK.out _ _ (aA6 (HY.out.mono HY1.out) (Nat.le_refl _) _) (fun hHeld=>?_)
 clear hK K s1
 try simp only [Act.put,z_1,z_2,z_3,z_4,z_5,z_6,z_7]
 refine wpAnyH_done (by kernel_rfl) ?_ _
 refine NoPanic.normal ?_
 go_wp2
 refine aC4 _ (y+1) _ 24 rfl rfl rfl (aA4 RY.out) ⟨rfl,?_⟩
 have e0:=EY.out
 have e1:=Z0.out
 exact aA6 (HB0w.out.trans (HY.out.mono (by omega))) (by omega) _
end
end Go.Proofs.YtdjplhibmomajaaGreatDoor
