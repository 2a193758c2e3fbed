/-
  Rows of integers, bytes of slices, appends, strings: what the proofs of layer 3 lean on.
  Plain facts on numbers of 64 bits that the walks of package word lean on: disjoint bits, halves of products.
  What word.Read and ssz.readOffset answer.
  What areSizes, inHead, headLength, inOrder answer.
  What headOffsets and inOrder answer.
-/
import Derived.Test.YtficlakgameglaaDoorRows
import Derived.WalkKit
import Derived.WalkSpells
import Derived.WalkLawsBesides
import Derived.OpenShut
import Derived.Handy
import Derived.Deep.RegionHeld3
import Derived.Deep.RegionWith
import Derived.Laws.BitsAllLaws
import Derived.Deep.MidRow
import Derived.Deep.WholeRow
import Derived.Maps.AppendAt
import Derived.Laws.AppendOwnNone
import Derived.Laws.BytesString
import Derived.Deep.AppendSrc
import Derived.Deep.Cut
import Derived.Deep.CutRange
import Derived.Deep.CutBlock
import Derived.Laws.Bits64b
import Derived.Laws.CopyRow
namespace Go.Proofs.YtficlakgameglaaDoor.Z

open Go.RowKit

set_option linter.unusedVariables false

set_option linter.unusedSimpArgs false

/-- Take number i first. -/
theorem tk {P : Program} {ops : Array Oper} {Q : Exit → Act → World → Prop} {md : Region.Mode} {S : World → Prop} (i : Nat) {oi : Oper} {v : Value} {fuel : Nat} {listed : Array Bool} {a : Act} {w : World}
    (hy : ∀ w, S w → (execOp a.eval oi).run P w = .ok (.value v) w) (hS : S w) (h : wpAnyH P md ops Q S fuel (listed.setIfInBounds i true) (a.put oi.dst v) w)
    (hi : ops[i]? = some oi := by rfl) (hs : Region.noSelect ops = true := by kernel_rfl) (hf : Region.free md ops listed i = true := by kernel_rfl) (hr : (Region.ready md ops listed).contains i = true := by kernel_rfl)
    (hQ : ∀ c a w, Q (.panic c) (a.put oi.dst v) w → Q (.panic c) a w := by exact fun _ _ _ h => h) (hw : Region.wanted oi (yielded ops a.tmps) = true := by kernel_rfl) : wpAnyH P md ops Q S (fuel + 1) listed a w :=
  wpAnyH_take hi hs hf hr hQ (Or.inl ⟨hw, hy⟩) hS h

/-- Number i is not wanted. -/
theorem tl {P : Program} {ops : Array Oper} {Q : Exit → Act → World → Prop} {md : Region.Mode} {S : World → Prop} (i : Nat) {oi : Oper} {fuel : Nat} {listed : Array Bool} {a : Act} {w : World}
    (hS : S w) (h : wpAnyH P md ops Q S fuel (listed.setIfInBounds i true) (a.put oi.dst undef) w)
    (hi : ops[i]? = some oi := by rfl) (hs : Region.noSelect ops = true := by kernel_rfl) (hf : Region.free md ops listed i = true := by kernel_rfl) (hr : (Region.ready md ops listed).contains i = true := by kernel_rfl)
    (hQ : ∀ c a w, Q (.panic c) (a.put oi.dst undef) w → Q (.panic c) a w := by exact fun _ _ _ h => h) (hw : Region.wanted oi (yielded ops a.tmps) = false := by kernel_rfl) : wpAnyH P md ops Q S (fuel + 1) listed a w :=
  wpAnyH_take hi hs hf hr hQ (Or.inr ⟨hw, rfl⟩) hS h

theorem hid {p : Prop} (h : p) : Hid p := h

theorem i64_of (n : Int) (h1 : -9223372036854775808 ≤ n) (h2 : n ≤ 9223372036854775807) : IntKind.i64.wrap n = n := by rw [IntKind.wrap_i64]; omega

/-- n integers of a kind. -/
def vs (k : IntKind) (n : Nat) (f : Nat → Int) : Array Value := ((List.range n).map fun i => Value.int k (f i)).toArray

theorem vs_size (k : IntKind) (n : Nat) (f : Nat → Int) : (vs k n f).size = n := by simp [vs]

theorem vs_get (k : IntKind) (n : Nat) (f : Nat → Int) (i : Nat) (h : i < n) : (vs k n f)[i]? = some (.int k (f i)) := by simp [vs, h]

theorem vs_get_none (k : IntKind) (n : Nat) (f : Nat → Int) (i : Nat) (h : n ≤ i) : (vs k n f)[i]? = none := by simp [vs, h]

theorem vs_congr {k : IntKind} {n : Nat} {f g : Nat → Int} (h : ∀ i, i < n → f i = g i) : vs k n f = vs k n g := by
  unfold vs
  congr 1
  apply List.map_congr_left
  intro i hi
  rw [h i (by simpa using hi)]

theorem vs_set (k : IntKind) (n : Nat) (f : Nat → Int) (i : Nat) (v : Int) : (vs k n f).setIfInBounds i (.int k v) = vs k n (fun j => if j = i then v else f j) := by
  apply Array.ext_getElem?
  intro j
  rw [Array.getElem?_setIfInBounds]
  by_cases e : i = j
  · subst e
    rw [if_pos rfl, vs_size]
    by_cases hn : i < n
    · rw [if_pos hn, vs_get _ _ _ i hn, if_pos rfl]
    · rw [if_neg hn, vs_get_none _ _ _ i (by omega)]
  · rw [if_neg e]
    by_cases hn : j < n
    · rw [vs_get _ _ _ j hn, vs_get _ _ _ j hn, if_neg (fun h => e h.symm)]
    · rw [vs_get_none _ _ _ j (by omega), vs_get_none _ _ _ j (by omega)]

theorem vs_one (k : IntKind) (n : Nat) (f : Nat → Int) : (vs k n f).all (·.oneCell') = true := by
  rw [Array.all_eq_true_iff_forall_mem]
  intro v hv
  simp [vs] at hv
  obtain ⟨i, _, rfl⟩ := hv
  rfl

theorem vs_list (k : IntKind) (n : Nat) (f : Nat → Int) : (vs k n f).toList = (List.range n).map fun i => Value.int k (f i) := by simp [vs]

theorem row_cell {w : World} {b : Nat} {c : Array Value} {t : TypeId} (h : w.heap[b]? = some (.cells c t)) (i : Nat) : w.cell? ⟨b, i, none⟩ = c[i]? := cell_of_row w b i c t (0, 0) h

theorem row_int {w : World} {b n : Nat} {k : IntKind} {f : Nat → Int} {t : TypeId} (h : w.heap[b]? = some (.cells (vs k n f) t)) (i : Nat) (hi : i < n) : w.cell? ⟨b, i, none⟩ = some (.int k (f i)) := by
  rw [row_cell h, vs_get _ _ _ _ hi]

theorem row_set {w : World} {b : Nat} {c : Array Value} {t : TypeId} (h : w.heap[b]? = some (.cells c t)) (i : Nat) (v : Value) : (w.setCell ⟨b, i, none⟩ v).heap[b]? = some (.cells (c.setIfInBounds i v) t) := by
  simp only [World.setCell, Array.getElem?_modify, if_true, h]
  rfl

theorem row_frozen {w : World} {b : Nat} {c : Array Value} {t : TypeId} (h : w.heap[b]? = some (.cells c t)) (i : Nat) : w.frozen? ⟨b, i, none⟩ = false := by
  simp [World.frozen?, h]

theorem heap_set_other {w : World} {b b' i : Nat} {v : Value} (h : b' ≠ b) : (w.setCell ⟨b, i, none⟩ v).heap[b']? = w.heap[b']? := Below.heap_setCell w ⟨b, i, none⟩ v b' h

/-- A whole row, read and written. -/
theorem load_row {P : Program} {w : World} {b : Nat} {c : Array Value} {t : TypeId} (h : w.heap[b]? = some (.cells c t)) (ty : TypeId) (d : TypeDesc) (hu : P.underlying ty = some d) (hd : d.isRow = true) (hi : (P.info? ty).map (·.size) = some c.size) :
    (Instr.loadAt ty (.pointer (some ⟨b, 0, none⟩))).run P w = .ok (.agg c) w := by
  simp only [Instr.loadAt, Instr.sureAddr, Sem.run_bind, Sem.run_pure, Result.andThen_ok]
  exact run_loadVar_row w b t ty c (0, 0) d h hu (by cases d <;> simp_all [TypeDesc.isRow]) hi

theorem store_row {P : Program} {w : World} {b : Nat} {old : Array Value} {t : TypeId} (h : w.heap[b]? = some (.cells old t)) (ty : TypeId) (c : Array Value) (hi : (P.info? ty).map (·.size) = some c.size) (ho : old.size = c.size) (h1 : c.all (·.oneCell') = true) :
    (Instr.storeAt ty (.pointer (some ⟨b, 0, none⟩)) (.agg c)).run P w = .ok () (w.setRow b c) := by
  simp only [Instr.storeAt, Instr.sureAddr, Sem.run_bind, Sem.run_pure, Result.andThen_ok]
  exact run_storeVar_row w b t ty old c h hi ho h1

/-- A load and a store whose runs are known. -/
theorem wpList_load_is {P : Program} {w : World} {ops : Array Oper} {rest : List Oper} {o : Oper} {a : Act} {Q : Exit → Act → World → Prop} (hg : o.guard = none) (ty : TypeId) (x : Operand) (hop : o.op = .load ty x) (vx v : Value) (hx : a.eval x = vx)
    (hrun : (Instr.loadAt ty vx).run P w = .ok v w) (hK : wpList P ops Q rest (a.put o.dst v) w) : wpList P ops Q (o :: rest) a w := by
  refine wpList_plain hg fun K hK' => ?_
  unfold Oper.wp execOp
  simp only [hop, hx, hrun, Sem.run_bind, Result.andThen_ok, Sem.run_pure]
  exact hK' _ _ hK

theorem wpList_store_is {P : Program} {w w' : World} {ops : Array Oper} {rest : List Oper} {o : Oper} {a : Act} {Q : Exit → Act → World → Prop} (hg : o.guard = none) (ty : TypeId) (x y : Operand) (hop : o.op = .store ty x y) (vx vy : Value) (hx : a.eval x = vx) (hy : a.eval y = vy)
    (hd : o.dst = none) (hrun : (Instr.storeAt ty vx vy).run P w = .ok () w') (hK : wpList P ops Q rest a w') : wpList P ops Q (o :: rest) a w := by
  refine wpList_plain hg fun K hK' => ?_
  unfold Oper.wp execOp
  simp only [hop, hx, hy, hrun, Sem.run_bind, Result.andThen_ok, Sem.run_pure]
  refine hK' _ _ ?_
  rw [hd]
  exact hK

/-- A result that lies in a cell. -/
theorem results_cell {P : Program} {fn : Func} {t : Tmp} {ty : TypeId} (h : fn.results = #[.cell t ty]) (tmps : Array Value) (w : World) (b : Nat) (v : Value) (ht : tmps.getD t undef = .pointer (some ⟨b, 0, none⟩))
    (hl : (Instr.loadAt ty (.pointer (some ⟨b, 0, none⟩))).run P w = .ok v w) : (results fn tmps).run P w = .ok v w := by
  simp only [Instr.loadAt, Instr.sureAddr, Sem.run_bind, Sem.run_pure, Result.andThen_ok] at hl
  rw [Array.getD_eq_getD_getElem?] at ht
  simp [results, h, ht, hl, asAddr]

theorem setRow_at {w : World} {b : Nat} {old c : Array Value} {t : TypeId} (h : w.heap[b]? = some (.cells old t)) : (w.setRow b c).heap[b]? = some (.cells c t) := setRow_heap w b old c t (0, 0) h

theorem below_row {B g : Nat} {w0 w : World} (hb : Below B w0 w) (hBg : B ≤ g) (cs : Array Value) : Below B w0 (w.setRow g cs) := 
  hb.trans ⟨rfl, rfl, rfl, by simp, fun k hk => setRow_other w g k cs (by omega)⟩

theorem heap_old {w : World} {o : Obj} {k : Nat} (h : k < w.heap.size) : (w.alloc o).heap[k]? = w.heap[k]? := Below.heap_alloc w o k h

theorem heap_new {w : World} {o : Obj} {k : Nat} (h : k = w.heap.size) : (w.alloc o).heap[k]? = some o := by subst h; exact heap_alloc_last w o

theorem below_cell {B : Nat} {w w' : World} (h : Below B w w') {b i : Nat} (hb : b < B) : w'.cell? ⟨b, i, none⟩ = w.cell? ⟨b, i, none⟩ := h.cell (p := ⟨b, i, none⟩) hb

/-- A table of words at the head of block b. -/
def Tab (w : World) (b n : Nat) (f : Nat → Int) : Prop := b < w.heap.size ∧ ∀ i, i < n → w.cell? ⟨b, i, none⟩ = some (.int .u32 (f i))

theorem Tab.below {w w' : World} {b n : Nat} {f : Nat → Int} (h : Tab w b n f) (hb : Below w.heap.size w w') : Tab w' b n f :=
  ⟨Nat.lt_of_lt_of_le h.1 hb.size, fun i hi => (below_cell hb h.1).trans (h.2 i hi)⟩

theorem heap_drew (w : World) (k : Nat) : w.drew.heap[k]? = w.heap[k]? := rfl

theorem info8 : (Tryd.prog.info? 5).map (fun i => (i.zero, i.size, i.bytes)) = some (some (.int .u8 0), 1, 1) := by kernel_rfl

/-- The bytes of a slice, whatever it is. -/
def Bys (w : World) (a : Option Addr) (len cap : Nat) (m : Nat → Int) : Prop :=
  (a = none ∧ len = 0 ∧ cap = 0) ∨ (∃ x, a = some x ∧ len = 0) ∨ ∃ b off, a = some ⟨b, off, none⟩ ∧ len ≤ cap ∧ cap ≤ 9223372036854775807 ∧ b < w.heap.size ∧ ∀ j, j < len → w.cell? ⟨b, off + j, none⟩ = some (.int .u8 (m j))

def bl (m : Nat → Int) (n : Nat) : List Value := (List.range n).map fun i => Value.int .u8 (m i)

theorem bl_len (m : Nat → Int) (n : Nat) : (bl m n).length = n := by simp [bl]

theorem bl_one (m : Nat → Int) (n : Nat) : ∀ u ∈ bl m n, u.oneCell' = true := by
  intro u hu
  obtain ⟨i, _, rfl⟩ := List.mem_map.1 hu
  rfl

theorem bl_get (m : Nat → Int) (n j : Nat) (u : Value) (h : (bl m n)[j]? = some u) : j < n ∧ u = .int .u8 (m j) := by
  have hj := (List.getElem?_eq_some_iff.1 h).1
  rw [bl_len] at hj
  refine ⟨hj, ?_⟩
  unfold bl at h
  rw [List.getElem?_map, List.getElem?_range hj] at h
  simpa using h.symm

theorem bl_at (m : Nat → Int) (n j : Nat) (hj : j < n) : (bl m n)[j]? = some (.int .u8 (m j)) := by
  unfold bl
  rw [List.getElem?_map, List.getElem?_range hj]
  rfl

theorem bl_snoc (m : Nat → Int) (n : Nat) (v : Int) (hv : v = m n) : bl m n ++ [.int .u8 v] = bl m (n + 1) := by
  unfold bl
  rw [List.range_succ, List.map_append, hv]
  rfl

theorem bl_congr {m m' : Nat → Int} {n : Nat} (h : ∀ i, i < n → m i = m' i) : bl m n = bl m' n := by
  unfold bl
  refine List.map_congr_left fun i hi => ?_
  rw [h i (List.mem_range.1 hi)]

theorem Bys.below {w w' : World} {a : Option Addr} {len cap : Nat} {m : Nat → Int} (h : Bys w a len cap m) (hb : Below w.heap.size w w') : Bys w' a len cap m := by
  rcases h with h | h | ⟨b, off, h1, h2, h3, h4, h5⟩
  · exact .inl h
  · exact .inr (.inl h)
  · exact .inr (.inr ⟨b, off, h1, h2, h3, Nat.lt_of_lt_of_le h4 hb.size, fun j hj => (below_cell hb h4).trans (h5 j hj)⟩)

theorem addr_add (b off j : Nat) : (⟨b, off, none⟩ : Addr).add j = ⟨b, off + j, none⟩ := by
  cases j <;> simp [Addr.add]

theorem owns_pos {W : World} {base : Nat} {e : TypeId} {size : Nat} {v : Value} {k : Nat} {xs : List Value} (h : W.ownsRow base e size v k xs) (hk : 0 < k) : ∃ g cap, v = .slice (some ⟨g, 0, none⟩) k cap := by
  rcases h.2 with ⟨_, h1⟩ | ⟨g, cap, cur, h1, _⟩
  · omega
  · exact ⟨g, cap, h1⟩

/-- append of bytes onto a slice of the call's own. -/
theorem wpList_append_bys (w : World) {ops : Array Oper} {rest : List Oper} {o : Oper} {a : Act} {Q : Exit → Act → World → Prop} (hgd : o.guard = none) (s x : Operand)
    (ho : o.op = .call { callee := .builtin .append, args := #[s, x], argTypes := #[39, 39] })
    (base : Nat) (v : Value) (n : Nat) (xs : List Value) (hs : a.eval s = v) (hown : w.ownsRow base 5 1 v n xs)
    (ao : Option Addr) (len cap : Nat) (m : Nat → Int) (hx : a.eval x = .slice ao len cap) (hb : Bys w ao len cap m) (hbd : n + len ≤ 140737488355328) (hbase : base ≤ w.heap.size)
    (h : ∀ v' w', w'.ownsRow base 5 1 v' (n + len) (xs ++ bl m len) → w.grownBy w' v.ownBlock → wpList Tryd.prog ops Q rest (a.put o.dst v') w') :
    wpList Tryd.prog ops Q (o :: rest) a w := by
  obtain ⟨i, hi, hz0, hz1, hz2⟩ := info_parts info8
  rcases hb with ⟨rfl, rfl, rfl⟩ | ⟨x0, rfl, rfl⟩ | ⟨b, off, rfl, hlc, hcm, hbl, hc⟩
  · refine wpList_append_own_none hgd s x 39 ho base 5 i 1 Tryd.underlying39 hi v n xs hs hown hx (h v w ?_ ⟨rfl, rfl, rfl, Nat.le_refl _, fun _ _ _ => rfl⟩)
    simpa [bl] using hown
  · exact wpList_append_own w hgd s x 39 ho base 5 i (.int .u8 0) 1 1 Tryd.underlying39 hi hz0 hz1 hz2 rfl (by decide) v n xs hs hown x0 0 cap (bl m 0) hx (by rw [bl_len])
      (fun j u hj => by
        have := (bl_get m 0 j u hj).1
        omega) (bl_one m 0) (by unfold maxLen; omega) (by omega) hbase (fun v' w' h1 h2 _ => h v' w' h1 h2)
  · exact wpList_append_own w hgd s x 39 ho base 5 i (.int .u8 0) 1 1 Tryd.underlying39 hi hz0 hz1 hz2 rfl (by decide) v n xs hs hown ⟨b, off, none⟩ len cap (bl m len) hx (by rw [bl_len]; omega)
      (fun j u hj => by
        obtain ⟨h1, rfl⟩ := bl_get m len j u hj
        rw [addr_add]
        exact hc j h1) (bl_one m len) (by unfold maxLen; omega) (by omega) hbase (fun v' w' h1 h2 _ => h v' w' h1 h2)

theorem below_grown {B : Nat} {w0 w w' : World} {v : Value} {n : Nat} {xs : List Value} {e : TypeId} (hb : Below B w0 w) (ho : w.ownsRow B e 1 v n xs) (hB : B ≤ w.heap.size) (hg : w.grownBy w' v.ownBlock) : Below B w0 w' :=
  ⟨hg.os.trans hb.os, hg.tape.trans hb.tape, hg.output.trans hb.output, Nat.le_trans hb.size hg.size, fun k hk => (hg.block k (by omega) (fun e => by have := (ho.lt k e.symm).1; omega)).trans (hb.block k hk)⟩

theorem own_cells {w : World} {B : Nat} {g n C : Nat} {m : Nat → Int} (h : w.ownsRow B 5 1 (.slice (some ⟨g, 0, none⟩) n C) n (bl m n)) : B ≤ g ∧ g < w.heap.size ∧ n ≤ C ∧ C ≤ 9223372036854775807 ∧ ∀ j, j < n → w.cell? ⟨g, j, none⟩ = some (.int .u8 (m j)) := by
  have hl := h.lt g rfl
  refine ⟨hl.1, hl.2, ?_, ?_, fun j hj => ?_⟩
  · rcases h.2 with ⟨h1, _⟩ | ⟨g', cap, cur, h1, _, _, h2, _⟩
    · cases h1
    · cases h1; exact h2
  · rcases h.2 with ⟨h1, _⟩ | ⟨g', cap, cur, h1, _, _, h2, h3, _⟩
    · cases h1
    · cases h1; unfold maxLen at h3; omega
  · have := h.cells (g := g) rfl j _ (bl_at m n j hj)
    rw [addr_add, Nat.zero_add] at this
    exact this

/-- A slice of bytes, whole. -/
def sl22 (x : Value) (lo hi : Option Value) : Sem Value := Instr.sliceAt 39 x lo hi none

theorem sl22_eq (x : Value) (lo hi : Option Value) : Instr.sliceAt 39 x lo hi none = sl22 x lo hi := rfl

theorem sl22_run (W : World) (ao : Option Addr) (len cap lo hi : Nat) (l h : Option Value) (hl : l = some (.int .i64 lo) ∨ l = none ∧ lo = 0) (hh : h = some (.int .i64 hi) ∨ h = none ∧ hi = len) (h1 : lo ≤ hi) (h2 : hi ≤ len) (h3 : len ≤ cap) :
    (sl22 (.slice ao len cap) l h).run Tryd.prog W = .ok (.slice (if cap = lo then ao else ao.map (·.add lo)) (hi - lo) (cap - lo)) W := by
  have hi8 : ∃ i, Tryd.prog.info? 5 = some i ∧ i.size = 1 := by
    obtain ⟨i, hi, _, hz, _⟩ := info_parts info8
    exact ⟨i, hi, hz⟩
  obtain ⟨i, hi8, hz⟩ := hi8
  have b1 : ∀ (k n : Nat) (c : BoundsCode), k ≤ n → (Instr.sliceBound (.int .i64 (k : Int)) n c).run Tryd.prog W = .ok k W := by
    intro k n c hk
    have h0 : (k : Int) ≤ (n : Int) := by omega
    simp [Instr.sliceBound, asIntOf, h0]
  have c1 := fun c => b1 lo hi c h1
  have c2 := fun c => b1 hi cap c (by omega)
  unfold sl22 Instr.sliceAt
  rcases hl with rfl | ⟨rfl, rfl⟩ <;> rcases hh with rfl | ⟨rfl, rfl⟩ <;>
    simp [run_underlying Tryd.underlying39, Instr.slice, Instr.sliceBounds, c1, c2, sizeOf, typeInfo, hi8, hz]

/-- The string of the first len bytes. -/
def strF (m : Nat → Int) (len : Nat) : ByteArray := ((List.range len).map m).foldl (fun r n => r.push (UInt8.ofNat n.toNat)) ByteArray.empty

theorem conv_bys (w : World) (a : Option Addr) (len cap : Nat) (m : Nat → Int) (h : Bys w a len cap m) :
    (convert 39 9 (.slice a len cap)).run Tryd.prog w = .ok (.string (strF m len)) w := by
  rw [run_convert_bytes_string w _ _ _ _ _ _ Tryd.underlying39 Tryd.underlying5 Tryd.underlying9]
  have hs : ∀ (x : Addr), a = some x → (∀ j, j < len → w.cell? (x.add j) = some (.int .u8 (m j))) → (Conv.bytesToString (.slice a len cap)).run Tryd.prog w = .ok (.string (strF m len)) w := by
    rintro x rfl hc
    refine run_bytesToString w x len cap ((List.range len).map m) ?_
    have hh := run_loadCells_list (P := Tryd.prog) w x (((List.range len).map m).map (Value.int .u8)) (by
      intro j v hj
      rw [List.map_map] at hj
      have hlt := (List.getElem?_eq_some_iff.1 hj).1
      rw [List.length_map, List.length_range] at hlt
      rw [hc j hlt]
      rw [List.getElem?_map, List.getElem?_range hlt] at hj
      simpa using hj)
    rw [List.length_map, List.length_map, List.length_range] at hh
    exact hh
  rcases h with ⟨rfl, rfl, rfl⟩ | ⟨x, rfl, rfl⟩ | ⟨b, off, rfl, h2, h3, h4, h5⟩
  · simp [Conv.bytesToString, strF]
  · exact hs x rfl (fun j hj => by omega)
  · exact hs _ rfl (fun j hj => by rw [addr_add]; exact h5 j hj)

end Go.Proofs.YtficlakgameglaaDoor.Z

namespace Go.Proofs.YtficlakgameglaaDoor.Z

open Go.RowKit

theorem or_nat' (i m y : Nat) (hy : y < 2 ^ i) (h : 2 ^ i * m + y < 18446744073709551616) :
    bits .or .u64 (y : Int) ((2 ^ i * m : Nat) : Int) = ((2 ^ i * m + y : Nat) : Int) := by
  rw [bits_or_u64_nat _ _ (by omega) (by omega), Nat.two_pow_add_eq_or_of_lt hy m, Nat.or_comm]

end Go.Proofs.YtficlakgameglaaDoor.Z

namespace Go.Proofs.YtficlakgameglaaDoor.Z

open Go.RowKit

set_option linter.unusedVariables false

set_option linter.unusedSimpArgs false

theorem or_zero (z : Int) (h0 : 0 ≤ z) (h1 : z < 18446744073709551616) : bits .or .u64 0 z = z := by
  obtain ⟨z, rfl⟩ := Int.eq_ofNat_of_zero_le h0
  have h := bits_or_u64_nat 0 z (by omega) (by omega)
  rw [Nat.zero_or] at h
  exact h

theorem or_add (k : Nat) (A z P : Int) (hP : P = 2 ^ k) (hA : 0 ≤ A) (hA' : A < P) (hz : 0 ≤ z) (h : A + z * P < 18446744073709551616) : bits .or .u64 A (z * P) = A + z * P := by
  obtain ⟨A, rfl⟩ := Int.eq_ofNat_of_zero_le hA
  obtain ⟨z, rfl⟩ := Int.eq_ofNat_of_zero_le hz
  have ep : ((2 ^ k : Nat) : Int) = (2 : Int) ^ k := by simp
  have e : (z : Int) * P = ((2 ^ k * z : Nat) : Int) := by rw [Int.natCast_mul, ep, hP, Int.mul_comm]
  rw [hP, ← ep] at hA'
  rw [e] at h ⊢
  rw [or_nat' k z A (by omega) (by omega)]
  omega

def num8 (z0 z1 z2 z3 z4 z5 z6 z7 : Int) : Int := z0 + z1 * 256 + z2 * 65536 + z3 * 16777216 + z4 * 4294967296 + z5 * 1099511627776 + z6 * 281474976710656 + z7 * 72057594037927936

theorem ret2 {k l : IntKind} {a b c d : Int} (h1 : a = c) (h2 : b = d) : Ending.returned (.tuple #[.int k a, .int l b]) = .returned (.tuple #[.int k c, .int l d]) := by rw [h1, h2]

set_option maxHeartbeats 1000000 in
theorem read8 (b off cap : Nat) (z0 z1 z2 z3 z4 z5 z6 z7 : Int) (w : World) (c0 : w.cell? ⟨b, off, none⟩ = some (.int .u8 z0)) (p0 : 0 ≤ z0) (q0 : z0 ≤ 255) (c1 : w.cell? ⟨b, off + 1, none⟩ = some (.int .u8 z1)) (p1 : 0 ≤ z1) (q1 : z1 ≤ 255) (c2 : w.cell? ⟨b, off + 2, none⟩ = some (.int .u8 z2)) (p2 : 0 ≤ z2) (q2 : z2 ≤ 255) (c3 : w.cell? ⟨b, off + 3, none⟩ = some (.int .u8 z3)) (p3 : 0 ≤ z3) (q3 : z3 ≤ 255) (c4 : w.cell? ⟨b, off + 4, none⟩ = some (.int .u8 z4)) (p4 : 0 ≤ z4) (q4 : z4 ≤ 255) (c5 : w.cell? ⟨b, off + 5, none⟩ = some (.int .u8 z5)) (p5 : 0 ≤ z5) (q5 : z5 ≤ 255) (c6 : w.cell? ⟨b, off + 6, none⟩ = some (.int .u8 z6)) (p6 : 0 ≤ z6) (q6 : z6 ≤ 255) (c7 : w.cell? ⟨b, off + 7, none⟩ = some (.int .u8 z7)) (p7 : 0 ≤ z7) (q7 : z7 ≤ 255) :
    Calls Tryd.prog 107 #[.slice (some ⟨b, off, none⟩) 8 cap] w fun e w' => e = .returned (.tuple #[.int .u64 (num8 z0 z1 z2 z3 z4 z5 z6 z7), .int .i64 0]) ∧ w' = w := by
  have o0 : bits .or .u64 0 z0 = z0 := or_zero z0 p0 (by omega)
  obtain ⟨A1, e1⟩ : ∃ A, z0 + z1 * 256 = A := ⟨_, rfl⟩
  have o1 : bits .or .u64 z0 (z1 * 256) = A1 := (or_add 8 z0 z1 256 (by decide) (by omega) (by omega) (by omega) (by omega)).trans e1
  obtain ⟨A2, e2⟩ : ∃ A, A1 + z2 * 65536 = A := ⟨_, rfl⟩
  have o2 : bits .or .u64 A1 (z2 * 65536) = A2 := (or_add 16 A1 z2 65536 (by decide) (by omega) (by omega) (by omega) (by omega)).trans e2
  obtain ⟨A3, e3⟩ : ∃ A, A2 + z3 * 16777216 = A := ⟨_, rfl⟩
  have o3 : bits .or .u64 A2 (z3 * 16777216) = A3 := (or_add 24 A2 z3 16777216 (by decide) (by omega) (by omega) (by omega) (by omega)).trans e3
  obtain ⟨A4, e4⟩ : ∃ A, A3 + z4 * 4294967296 = A := ⟨_, rfl⟩
  have o4 : bits .or .u64 A3 (z4 * 4294967296) = A4 := (or_add 32 A3 z4 4294967296 (by decide) (by omega) (by omega) (by omega) (by omega)).trans e4
  obtain ⟨A5, e5⟩ : ∃ A, A4 + z5 * 1099511627776 = A := ⟨_, rfl⟩
  have o5 : bits .or .u64 A4 (z5 * 1099511627776) = A5 := (or_add 40 A4 z5 1099511627776 (by decide) (by omega) (by omega) (by omega) (by omega)).trans e5
  obtain ⟨A6, e6⟩ : ∃ A, A5 + z6 * 281474976710656 = A := ⟨_, rfl⟩
  have o6 : bits .or .u64 A5 (z6 * 281474976710656) = A6 := (or_add 48 A5 z6 281474976710656 (by decide) (by omega) (by omega) (by omega) (by omega)).trans e6
  obtain ⟨A7, e7⟩ : ∃ A, A6 + z7 * 72057594037927936 = A := ⟨_, rfl⟩
  have o7 : bits .or .u64 A6 (z7 * 72057594037927936) = A7 := (or_add 56 A6 z7 72057594037927936 (by decide) (by omega) (by omega) (by omega) (by omega)).trans e7
  have en : A7 = num8 z0 z1 z2 z3 z4 z5 z6 z7 := by unfold num8; omega
  have EN := hid en
  clear en e1 e2 e3 e4 e5 e6 e7
  go_enter Tryd.func107, Tryd.ntmps107
  go_wp2
  go_rounds 9
  go_ret2
  exact ⟨ret2 EN.out rfl, rfl⟩

/-- The number that four bytes from place k on are, the lowest first. -/
def o4 (m : Nat → Int) (k : Nat) : Int := m k + m (k + 1) * 256 + m (k + 2) * 65536 + m (k + 3) * 16777216

def cp22 (ty : TypeId) (x y : Value) : Sem Value := Builtin.copy_ #[39, 39] ty #[x, y]

theorem cp22_eq (ty : TypeId) (x y : Value) : Builtin.copy_ #[39, 39] ty #[x, y] = cp22 ty x y := rfl

attribute [local go_sem ↓] cp22_eq

end Go.Proofs.YtficlakgameglaaDoor.Z

namespace Go.Proofs.YtficlakgameglaaDoor.Z

open Go.RowKit

set_option linter.unusedVariables false

set_option linter.unusedSimpArgs false

/-- The numbers of a slice, whatever it is. -/
def Nms (k : IntKind) (w : World) (a : Option Addr) (n : Nat) (zs : Nat → Int) : Prop :=
  n = 0 ∨ ∃ b off, a = some ⟨b, off, none⟩ ∧ b < w.heap.size ∧ ∀ j, j < n → w.cell? ⟨b, off + j, none⟩ = some (.int k (zs j))

theorem Nms.below {k : IntKind} {w w' : World} {a : Option Addr} {n : Nat} {zs : Nat → Int} (h : Nms k w a n zs) (hb : Below w.heap.size w w') : Nms k w' a n zs := by
  rcases h with h | ⟨b, off, h1, h2, h3⟩
  · exact .inl h
  · exact .inr ⟨b, off, h1, Nat.lt_of_lt_of_le h2 hb.size, fun j hj => (below_cell hb h2).trans (h3 j hj)⟩

/-- Are they sizes? -/
def okS (z : Int) : Prop := 0 ≤ z ∧ z ≤ 65536

instance (z : Int) : Decidable (okS z) := by unfold okS; infer_instance

def szB (zs : Nat → Int) (n : Nat) : Bool := decide (1 ≤ n) && (decide (n ≤ 64) && (List.range n).all fun i => decide (okS (zs i)))

theorem szB_true {zs : Nat → Int} {n : Nat} (h1 : 1 ≤ n) (h2 : n ≤ 64) (h : ∀ i, i < n → okS (zs i)) : szB zs n = true := by
  unfold szB
  simp only [Bool.and_eq_true, decide_eq_true_eq, List.all_eq_true, List.mem_range]
  exact ⟨h1, h2, h⟩

theorem szB_false {zs : Nat → Int} {n : Nat} (h : n = 0 ∨ 64 < n ∨ ∃ i, i < n ∧ ¬ okS (zs i)) : szB zs n = false := by
  cases hb : szB zs n
  · rfl
  · exfalso
    unfold szB at hb
    simp only [Bool.and_eq_true, decide_eq_true_eq, List.all_eq_true, List.mem_range] at hb
    rcases h with h | h | ⟨i, h1, h2⟩
    · omega
    · omega
    · exact h2 (hb.2.2 i h1)

theorem szB_out {zs : Nat → Int} {n : Nat} (h : szB zs n = true) : 1 ≤ n ∧ n ≤ 64 ∧ ∀ i, i < n → okS (zs i) := by
  unfold szB at h
  simpa only [Bool.and_eq_true, decide_eq_true_eq, List.all_eq_true, List.mem_range] using h

/-- How many bytes a part has in the head, and where the part number i begins there. -/
def inH (z : Int) : Nat := if z = 0 then 4 else z.toNat

def hdL (zs : Nat → Int) : Nat → Nat
  | 0 => 0
  | i + 1 => hdL zs i + inH (zs i)

theorem inH_bd {z : Int} (h : okS z) : 1 ≤ inH z ∧ inH z ≤ 65536 := by
  unfold okS at h
  unfold inH
  by_cases h0 : z = 0
  · rw [if_pos h0]; omega
  · rw [if_neg h0]; omega

theorem hdL_bd {zs : Nat → Int} (n : Nat) (h : ∀ i, i < n → okS (zs i)) : hdL zs n ≤ 65536 * n := by
  induction n with
  | zero => exact Nat.le_refl _
  | succ n ih =>
    have h1 := ih fun i hi => h i (by omega)
    have h2 := inH_bd (h n (by omega))
    show hdL zs n + inH (zs n) ≤ _
    omega

theorem hdL_mono (zs : Nat → Int) {i j : Nat} (h : i ≤ j) : hdL zs i ≤ hdL zs j := by
  induction j with
  | zero => have : i = 0 := by omega
            subst this
            exact Nat.le_refl _
  | succ j ih =>
    by_cases hj : i ≤ j
    · have := ih hj
      show hdL zs i ≤ hdL zs j + inH (zs j)
      omega
    · have : i = j + 1 := by omega
      subst this
      exact Nat.le_refl _

end Go.Proofs.YtficlakgameglaaDoor.Z

namespace Go.Proofs.YtficlakgameglaaDoor.Z

open Go.RowKit

set_option linter.unusedVariables false

set_option linter.unusedSimpArgs false

theorem ownsRow_kept {w w' : World} {base : Nat} {e : TypeId} {v : Value} {n : Nat} {xs : List Value} (h : w.ownsRow base e 1 v n xs) (hk : ∀ (g : Nat) (cur : Array Value), w.heap[g]? = some (.cells cur e (0, 0)) → w'.heap[g]? = w.heap[g]?) : w'.ownsRow base e 1 v n xs := by
  refine ⟨h.1, ?_⟩
  rcases h.2 with h1 | ⟨g, cap, cur, h1, h2, h3, h4⟩
  · exact .inl h1
  · exact .inr ⟨g, cap, cur, h1, h2, (hk g cur h3).trans h3, h4⟩

theorem owns_below {w w' : World} {base : Nat} {e : TypeId} {v : Value} {n : Nat} {xs : List Value} (h : w.ownsRow base e 1 v n xs) (hb : Below w.heap.size w w') : w'.ownsRow base e 1 v n xs :=
  ownsRow_kept h fun g cur hg => hb.block g (Array.getElem?_eq_some_iff.1 hg).1

attribute [local go_sem ↓] sl22_eq

end Go.Proofs.YtficlakgameglaaDoor.Z
