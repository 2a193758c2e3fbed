/-
  Rows of integers in memory: what lies in a block, read and written cell by cell.
-/
import Derived.Test.YtjimdkpppgjokaaDoorShaA
import Derived.Deep.MidRow
import Derived.Deep.WholeRow
namespace Go.Proofs.YtjimdkpppgjokaaDoor
open Go.RowKit
set_option linter.unusedVariables false

/-- n integers of a kind. -/
def vs (k : IntKind) (n : Nat) (f : Nat → Int) : Array Value := ((List.range n).map fun i => Value.int k (f i)).toArray

theorem vs_size (k : IntKind) (n : Nat) (f : Nat → Int) : (vs k n f).size = n := by simp [vs]
theorem vs_get (k : IntKind) (n : Nat) (f : Nat → Int) (i : Nat) (h : i < n) : (vs k n f)[i]? = some (.int k (f i)) := by simp [vs, h]
theorem vs_get_none (k : IntKind) (n : Nat) (f : Nat → Int) (i : Nat) (h : n ≤ i) : (vs k n f)[i]? = none := by simp [vs, h]
theorem vs_congr {k : IntKind} {n : Nat} {f g : Nat → Int} (h : ∀ i, i < n → f i = g i) : vs k n f = vs k n g := by
  unfold vs
  congr 1
  apply List.map_congr_left
  intro i hi
  rw [h i (by simpa using hi)]
theorem vs_set (k : IntKind) (n : Nat) (f : Nat → Int) (i : Nat) (v : Int) : (vs k n f).setIfInBounds i (.int k v) = vs k n (fun j => if j = i then v else f j) := by
  apply Array.ext_getElem?
  intro j
  rw [Array.getElem?_setIfInBounds]
  by_cases e : i = j
  · subst e
    rw [if_pos rfl, vs_size]
    by_cases hn : i < n
    · rw [if_pos hn, vs_get _ _ _ i hn, if_pos rfl]
    · rw [if_neg hn, vs_get_none _ _ _ i (by omega)]
  · rw [if_neg e]
    by_cases hn : j < n
    · rw [vs_get _ _ _ j hn, vs_get _ _ _ j hn, if_neg (fun h => e h.symm)]
    · rw [vs_get_none _ _ _ j (by omega), vs_get_none _ _ _ j (by omega)]
theorem vs_one (k : IntKind) (n : Nat) (f : Nat → Int) : (vs k n f).all (·.oneCell') = true := by
  rw [Array.all_eq_true_iff_forall_mem]
  intro v hv
  simp [vs] at hv
  obtain ⟨i, _, rfl⟩ := hv
  rfl
theorem vs_list (k : IntKind) (n : Nat) (f : Nat → Int) : (vs k n f).toList = (List.range n).map fun i => Value.int k (f i) := by simp [vs]

theorem row_cell {w : World} {b : Nat} {c : Array Value} {t : TypeId} (h : w.heap[b]? = some (.cells c t)) (i : Nat) : w.cell? ⟨b, i, none⟩ = c[i]? := cell_of_row w b i c t (0, 0) h

theorem row_int {w : World} {b n : Nat} {k : IntKind} {f : Nat → Int} {t : TypeId} (h : w.heap[b]? = some (.cells (vs k n f) t)) (i : Nat) (hi : i < n) : w.cell? ⟨b, i, none⟩ = some (.int k (f i)) := by
  rw [row_cell h, vs_get _ _ _ _ hi]

theorem row_set {w : World} {b : Nat} {c : Array Value} {t : TypeId} (h : w.heap[b]? = some (.cells c t)) (i : Nat) (v : Value) : (w.setCell ⟨b, i, none⟩ v).heap[b]? = some (.cells (c.setIfInBounds i v) t) := by
  simp only [World.setCell, Array.getElem?_modify, if_true, h]
  rfl

theorem row_frozen {w : World} {b : Nat} {c : Array Value} {t : TypeId} (h : w.heap[b]? = some (.cells c t)) (i : Nat) : w.frozen? ⟨b, i, none⟩ = false := by
  simp [World.frozen?, h]

theorem heap_set_other {w : World} {b b' i : Nat} {v : Value} (h : b' ≠ b) : (w.setCell ⟨b, i, none⟩ v).heap[b']? = w.heap[b']? := Below.heap_setCell w ⟨b, i, none⟩ v b' h

/-- A whole row, read and written. -/
theorem load_row {P : Program} {w : World} {b : Nat} {c : Array Value} {t : TypeId} (h : w.heap[b]? = some (.cells c t)) (ty : TypeId) (d : TypeDesc) (hu : P.underlying ty = some d) (hd : d.isRow = true) (hi : (P.info? ty).map (·.size) = some c.size) :
    (Instr.loadAt ty (.pointer (some ⟨b, 0, none⟩))).run P w = .ok (.agg c) w := by
  simp only [Instr.loadAt, Instr.sureAddr, Sem.run_bind, Sem.run_pure, Result.andThen_ok]
  exact run_loadVar_row w b t ty c (0, 0) d h hu (by cases d <;> simp_all [TypeDesc.isRow]) hi
theorem store_row {P : Program} {w : World} {b : Nat} {old : Array Value} {t : TypeId} (h : w.heap[b]? = some (.cells old t)) (ty : TypeId) (c : Array Value) (hi : (P.info? ty).map (·.size) = some c.size) (ho : old.size = c.size) (h1 : c.all (·.oneCell') = true) :
    (Instr.storeAt ty (.pointer (some ⟨b, 0, none⟩)) (.agg c)).run P w = .ok () (w.setRow b c) := by
  simp only [Instr.storeAt, Instr.sureAddr, Sem.run_bind, Sem.run_pure, Result.andThen_ok]
  exact run_storeVar_row w b t ty old c h hi ho h1
/-- A load and a store whose runs are known. -/
theorem wpList_load_is {P : Program} {w : World} {ops : Array Oper} {rest : List Oper} {o : Oper} {a : Act} {Q : Exit → Act → World → Prop} (hg : o.guard = none) (ty : TypeId) (x : Operand) (hop : o.op = .load ty x) (vx v : Value) (hx : a.eval x = vx)
    (hrun : (Instr.loadAt ty vx).run P w = .ok v w) (hK : wpList P ops Q rest (a.put o.dst v) w) : wpList P ops Q (o :: rest) a w := by
  refine wpList_plain hg fun K hK' => ?_
  unfold Oper.wp execOp
  simp only [hop, hx, hrun, Sem.run_bind, Result.andThen_ok, Sem.run_pure]
  exact hK' _ _ hK
theorem wpList_store_is {P : Program} {w w' : World} {ops : Array Oper} {rest : List Oper} {o : Oper} {a : Act} {Q : Exit → Act → World → Prop} (hg : o.guard = none) (ty : TypeId) (x y : Operand) (hop : o.op = .store ty x y) (vx vy : Value) (hx : a.eval x = vx) (hy : a.eval y = vy)
    (hd : o.dst = none) (hrun : (Instr.storeAt ty vx vy).run P w = .ok () w') (hK : wpList P ops Q rest a w') : wpList P ops Q (o :: rest) a w := by
  refine wpList_plain hg fun K hK' => ?_
  unfold Oper.wp execOp
  simp only [hop, hx, hy, hrun, Sem.run_bind, Result.andThen_ok, Sem.run_pure]
  refine hK' _ _ ?_
  rw [hd]
  exact hK
/-- A result that lies in a cell. -/
theorem results_cell {P : Program} {fn : Func} {t : Tmp} {ty : TypeId} (h : fn.results = #[.cell t ty]) (tmps : Array Value) (w : World) (b : Nat) (v : Value) (ht : tmps.getD t undef = .pointer (some ⟨b, 0, none⟩))
    (hl : (Instr.loadAt ty (.pointer (some ⟨b, 0, none⟩))).run P w = .ok v w) : (results fn tmps).run P w = .ok v w := by
  simp only [Instr.loadAt, Instr.sureAddr, Sem.run_bind, Sem.run_pure, Result.andThen_ok] at hl
  rw [Array.getD_eq_getD_getElem?] at ht
  simp [results, h, ht, hl, asAddr]

theorem setRow_at {w : World} {b : Nat} {old c : Array Value} {t : TypeId} (h : w.heap[b]? = some (.cells old t)) : (w.setRow b c).heap[b]? = some (.cells c t) := setRow_heap w b old c t (0, 0) h
theorem below_row {B g : Nat} {w0 w : World} (hb : Below B w0 w) (hBg : B ≤ g) (cs : Array Value) : Below B w0 (w.setRow g cs) := 
  hb.trans ⟨rfl, rfl, rfl, by simp, fun k hk => setRow_other w g k cs (by omega)⟩

theorem heap_old {w : World} {o : Obj} {k : Nat} (h : k < w.heap.size) : (w.alloc o).heap[k]? = w.heap[k]? := Below.heap_alloc w o k h
theorem heap_new {w : World} {o : Obj} {k : Nat} (h : k = w.heap.size) : (w.alloc o).heap[k]? = some o := by subst h; exact heap_alloc_last w o
theorem heap_at (w : World) (o : Obj) (k : Nat) : (w.alloc o).heap[k]? = if k = w.heap.size then some o else w.heap[k]? := by
  show (w.heap.push o)[k]? = _
  rw [Array.getElem?_push]
theorem below_cell {B : Nat} {w w' : World} (h : Below B w w') {b i : Nat} (hb : b < B) : w'.cell? ⟨b, i, none⟩ = w.cell? ⟨b, i, none⟩ := h.cell (p := ⟨b, i, none⟩) hb

/-- A table of words at the head of block b. -/
def Tab (w : World) (b n : Nat) (f : Nat → Int) : Prop := b < w.heap.size ∧ ∀ i, i < n → w.cell? ⟨b, i, none⟩ = some (.int .u32 (f i))
theorem Tab.below {w w' : World} {b n : Nat} {f : Nat → Int} (h : Tab w b n f) (hb : Below w.heap.size w w') : Tab w' b n f :=
  ⟨Nat.lt_of_lt_of_le h.1 hb.size, fun i hi => (below_cell hb h.1).trans (h.2 i hi)⟩
theorem heap_drew (w : World) (k : Nat) : w.drew.heap[k]? = w.heap[k]? := rfl

end Go.Proofs.YtjimdkpppgjokaaDoor
