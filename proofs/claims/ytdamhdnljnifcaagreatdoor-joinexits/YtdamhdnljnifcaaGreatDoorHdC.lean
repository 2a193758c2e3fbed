/- A part. -/
import Derived.Test.YtdamhdnljnifcaaGreatDoorQJ
import Derived.Test.YtdamhdnljnifcaaGreatDoorQR
import Derived.Test.YtdamhdnljnifcaaGreatDoorQI
import Derived.Test.YtdamhdnljnifcaaGreatDoorQH
import Derived.BigRegion
namespace Go.Proofs.YtdamhdnljnifcaaGreatDoor
open Go.RowKit
set_option linter.unusedVariables false
set_option linter.unusedSimpArgs false
set_option maxRecDepth 20000
def bsK (n:Nat) (ps:Array (Nat × Value)):Sem Value:=Instr.buildSlice 89 n ps
theorem bsK_eq (n:Nat) (ps:Array (Nat × Value)):Instr.buildSlice 89 n ps=bsK n ps:=rfl
theorem bsK_1 (W:World) (c:Nat→Int):(bsK 1 #[(0,.agg (vs .u8 48 c))]).run Tryz.prog W=.ok (.slice (some ⟨W.heap.size,0,none⟩) 1 1) (W.alloc (.cells (vs .u8 48 c) 44)):=by kernel_rfl
theorem retState3 {fn : Func} {R : Ending → World → Prop} {a : Act} {w' : World} (t s s2 : Tmp) (b : Nat) (c : VState) (ty : TypeId) (v v2 : Value) (h : fn.results = #[.cell t 49, .tmp s, .tmp s2]) (hd : a.defers = []) (ht : a.tmps.getD t undef = .pointer (some ⟨b, 0, none⟩)) (hs : a.tmps.getD s undef = v) (hs2 : a.tmps.getD s2 undef = v2) (hr : w'.heap[b]? = some (.cells (cel (sState c)) ty))
    (hR:R (.returned (.tuple #[.agg (cel (sState c)),v,v2])) w'):bodyPost Tryz.prog fn R .ret a w':=by
 refine bodyPost_ret ?_ hd hR
 have hl:=loadAt_var (load_row (P:=Tryz.prog) hr 49 _ Tryz.underlying49 rfl (by rw [cel_size,slState];kernel_rfl))
 rw [Array.getD_eq_getD_getElem?] at ht hs hs2
 simp [results,h,ht,hs,hs2,hl,asAddr]
theorem rows_ne {w:World} {a b:Nat} {C D:Array Value} {t u:TypeId} (h:w.heap[a]?=some (.cells C t)) (k:w.heap[b]?=some (.cells D u)) (hne:t≠u):a≠b:=fun e=>by
 subst e
 rw [h] at k
 exact hne (Obj.cells.inj (Option.some.inj k)).2.1
theorem twB (a b:Nat→Int) (j:Nat):0≤tw a b j∧tw a b j < 256:=shaV_bd ..
theorem domB (x:VState) (k e:Int) (j:Nat):0≤domV x k e j∧domV x k e j < 256:=by
 unfold domV dmV
 split
 ·unfold kdB nmB;omega
 ·exact twB ..
attribute [local go_sem ↓] lvState_eq svState_eq bdState_eq sv24_eq lv24_eq sv8_eq ix22_eq bs22_eq bsK_eq lvSg_eq lvKy_eq ixValidator_eq
theorem val_key {w:World} {b o:Nat} {v:VValidator} (h:w.rangeAt b o (celL (sValidator v))) (j:Nat) (hj:j < 48):w.cell? ⟨b,o+j,none⟩=some (.int .u8 (v.f0 j)):=by
 refine h j _ ?_
 show ((List.range 48).map (Seg.get (.by 48 v.f0))++celL _)[j]?=_
 rw [List.getElem?_append_left (by simp;exact hj),List.getElem?_map,List.getElem?_range hj]
 rfl
end Go.Proofs.YtdamhdnljnifcaaGreatDoor
