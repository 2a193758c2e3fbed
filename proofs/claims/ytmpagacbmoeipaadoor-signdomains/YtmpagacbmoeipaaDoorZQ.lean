/-
  Rows of integers, bytes of slices, appends, strings: what the proofs of layer 3 lean on.
  Plain facts on numbers of 64 bits that the walks of package word lean on: disjoint bits, halves of products.
  What word.Read and ssz.readOffset answer.
  What areSizes, inHead, headLength, inOrder answer.
  What headOffsets and inOrder answer.
  What inOrder, bytes.Clone and piece answer.
  What looseParts answers.
  What containerParts answers.
  What ssz.Cut answers where it cuts.
  What the reference's sizesOK and Head answer.
  What the reference's offset answers.
  What word.Bytes, ssz.appendOffset and ssz.totalLength answer.
  Lists of bytes; what the reference's Same and ssz.totalLength answer.
  A container's bytes, cut again.
  What the reference's Lay answers.
  What SszLays answers.
  What was cut, laid again, is the bytes; ssz.Cut whole.
  A container's bytes, cut again: the parts themselves.
  What the reference's rises answers.
  Strings told apart; which bytes have which parts.
  What the containers of layer 7 share.
  What the containers of layer 7 share.
  What the reference's Cut answers.
  What the containers of layer 7 share.
-/
import Derived.Test.YtmpagacbmoeipaaDoorRows
import Derived.Test.YtmpagacbmoeipaaDoorMaE
import Derived.WalkKit
import Derived.WalkSpells
import Derived.WalkLawsBesides
import Derived.OpenShut
import Derived.Handy
import Derived.Deep.RegionHeld3
import Derived.Deep.RegionWith
import Derived.Laws.BitsAllLaws
import Derived.Deep.MidRow
import Derived.Deep.WholeRow
import Derived.Maps.AppendAt
import Derived.Laws.AppendOwnNone
import Derived.Laws.BytesString
import Derived.Deep.AppendSrc
import Derived.Deep.Cut
import Derived.Deep.CutRange
import Derived.Deep.CutBlock
import Derived.Laws.Bits64b
import Derived.Laws.CopyRow
import Derived.Laws.Cover3
import Derived.ScopeJumps
import Derived.Deep.Onto

import Derived.ChangeArms

import Derived.OpenShut

import Derived.WideShapes

namespace Go.Proofs.YtmpagacbmoeipaaDoor.Z

open Go.RowKit

set_option linter.unusedVariables false

set_option linter.unusedSimpArgs false

/-- Take number i first. -/
theorem tk {P : Program} {ops : Array Oper} {Q : Exit → Act → World → Prop} {md : Region.Mode} {S : World → Prop} (i : Nat) {oi : Oper} {v : Value} {fuel : Nat} {listed : Array Bool} {a : Act} {w : World}
    (hy : ∀ w, S w → (execOp a.eval oi).run P w = .ok (.value v) w) (hS : S w) (h : wpAnyH P md ops Q S fuel (listed.setIfInBounds i true) (a.put oi.dst v) w)
    (hi : ops[i]? = some oi := by rfl) (hs : Region.noSelect ops = true := by kernel_rfl) (hf : Region.free md ops listed i = true := by kernel_rfl) (hr : (Region.ready md ops listed).contains i = true := by kernel_rfl)
    (hQ : ∀ c a w, Q (.panic c) (a.put oi.dst v) w → Q (.panic c) a w := by exact fun _ _ _ h => h) (hw : Region.wanted oi (yielded ops a.tmps) = true := by kernel_rfl) : wpAnyH P md ops Q S (fuel + 1) listed a w :=
  wpAnyH_take hi hs hf hr hQ (Or.inl ⟨hw, hy⟩) hS h

/-- Number i is not wanted. -/
theorem tl {P : Program} {ops : Array Oper} {Q : Exit → Act → World → Prop} {md : Region.Mode} {S : World → Prop} (i : Nat) {oi : Oper} {fuel : Nat} {listed : Array Bool} {a : Act} {w : World}
    (hS : S w) (h : wpAnyH P md ops Q S fuel (listed.setIfInBounds i true) (a.put oi.dst undef) w)
    (hi : ops[i]? = some oi := by rfl) (hs : Region.noSelect ops = true := by kernel_rfl) (hf : Region.free md ops listed i = true := by kernel_rfl) (hr : (Region.ready md ops listed).contains i = true := by kernel_rfl)
    (hQ : ∀ c a w, Q (.panic c) (a.put oi.dst undef) w → Q (.panic c) a w := by exact fun _ _ _ h => h) (hw : Region.wanted oi (yielded ops a.tmps) = false := by kernel_rfl) : wpAnyH P md ops Q S (fuel + 1) listed a w :=
  wpAnyH_take hi hs hf hr hQ (Or.inr ⟨hw, rfl⟩) hS h

theorem hid {p : Prop} (h : p) : Hid p := h

theorem i64_of (n : Int) (h1 : -9223372036854775808 ≤ n) (h2 : n ≤ 9223372036854775807) : IntKind.i64.wrap n = n := by rw [IntKind.wrap_i64]; omega

/-- n integers of a kind. -/
def vs (k : IntKind) (n : Nat) (f : Nat → Int) : Array Value := ((List.range n).map fun i => Value.int k (f i)).toArray

theorem vs_size (k : IntKind) (n : Nat) (f : Nat → Int) : (vs k n f).size = n := by simp [vs]

theorem vs_get (k : IntKind) (n : Nat) (f : Nat → Int) (i : Nat) (h : i < n) : (vs k n f)[i]? = some (.int k (f i)) := by simp [vs, h]

theorem vs_get_none (k : IntKind) (n : Nat) (f : Nat → Int) (i : Nat) (h : n ≤ i) : (vs k n f)[i]? = none := by simp [vs, h]

theorem vs_congr {k : IntKind} {n : Nat} {f g : Nat → Int} (h : ∀ i, i < n → f i = g i) : vs k n f = vs k n g := by
  unfold vs
  congr 1
  apply List.map_congr_left
  intro i hi
  rw [h i (by simpa using hi)]

theorem vs_set (k : IntKind) (n : Nat) (f : Nat → Int) (i : Nat) (v : Int) : (vs k n f).setIfInBounds i (.int k v) = vs k n (fun j => if j = i then v else f j) := by
  apply Array.ext_getElem?
  intro j
  rw [Array.getElem?_setIfInBounds]
  by_cases e : i = j
  · subst e
    rw [if_pos rfl, vs_size]
    by_cases hn : i < n
    · rw [if_pos hn, vs_get _ _ _ i hn, if_pos rfl]
    · rw [if_neg hn, vs_get_none _ _ _ i (by omega)]
  · rw [if_neg e]
    by_cases hn : j < n
    · rw [vs_get _ _ _ j hn, vs_get _ _ _ j hn, if_neg (fun h => e h.symm)]
    · rw [vs_get_none _ _ _ j (by omega), vs_get_none _ _ _ j (by omega)]

theorem vs_one (k : IntKind) (n : Nat) (f : Nat → Int) : (vs k n f).all (·.oneCell') = true := by
  rw [Array.all_eq_true_iff_forall_mem]
  intro v hv
  simp [vs] at hv
  obtain ⟨i, _, rfl⟩ := hv
  rfl

theorem vs_list (k : IntKind) (n : Nat) (f : Nat → Int) : (vs k n f).toList = (List.range n).map fun i => Value.int k (f i) := by simp [vs]

theorem row_cell {w : World} {b : Nat} {c : Array Value} {t : TypeId} (h : w.heap[b]? = some (.cells c t)) (i : Nat) : w.cell? ⟨b, i, none⟩ = c[i]? := cell_of_row w b i c t (0, 0) h

theorem row_int {w : World} {b n : Nat} {k : IntKind} {f : Nat → Int} {t : TypeId} (h : w.heap[b]? = some (.cells (vs k n f) t)) (i : Nat) (hi : i < n) : w.cell? ⟨b, i, none⟩ = some (.int k (f i)) := by
  rw [row_cell h, vs_get _ _ _ _ hi]

theorem row_set {w : World} {b : Nat} {c : Array Value} {t : TypeId} (h : w.heap[b]? = some (.cells c t)) (i : Nat) (v : Value) : (w.setCell ⟨b, i, none⟩ v).heap[b]? = some (.cells (c.setIfInBounds i v) t) := by
  simp only [World.setCell, Array.getElem?_modify, if_true, h]
  rfl

theorem row_frozen {w : World} {b : Nat} {c : Array Value} {t : TypeId} (h : w.heap[b]? = some (.cells c t)) (i : Nat) : w.frozen? ⟨b, i, none⟩ = false := by
  simp [World.frozen?, h]

theorem heap_set_other {w : World} {b b' i : Nat} {v : Value} (h : b' ≠ b) : (w.setCell ⟨b, i, none⟩ v).heap[b']? = w.heap[b']? := Below.heap_setCell w ⟨b, i, none⟩ v b' h

/-- A whole row, read and written. -/
theorem load_row {P : Program} {w : World} {b : Nat} {c : Array Value} {t : TypeId} (h : w.heap[b]? = some (.cells c t)) (ty : TypeId) (d : TypeDesc) (hu : P.underlying ty = some d) (hd : d.isRow = true) (hi : (P.info? ty).map (·.size) = some c.size) :
    (Instr.loadAt ty (.pointer (some ⟨b, 0, none⟩))).run P w = .ok (.agg c) w := by
  simp only [Instr.loadAt, Instr.sureAddr, Sem.run_bind, Sem.run_pure, Result.andThen_ok]
  exact run_loadVar_row w b t ty c (0, 0) d h hu (by cases d <;> simp_all [TypeDesc.isRow]) hi

theorem store_row {P : Program} {w : World} {b : Nat} {old : Array Value} {t : TypeId} (h : w.heap[b]? = some (.cells old t)) (ty : TypeId) (c : Array Value) (hi : (P.info? ty).map (·.size) = some c.size) (ho : old.size = c.size) (h1 : c.all (·.oneCell') = true) :
    (Instr.storeAt ty (.pointer (some ⟨b, 0, none⟩)) (.agg c)).run P w = .ok () (w.setRow b c) := by
  simp only [Instr.storeAt, Instr.sureAddr, Sem.run_bind, Sem.run_pure, Result.andThen_ok]
  exact run_storeVar_row w b t ty old c h hi ho h1

/-- A load and a store whose runs are known. -/
theorem wpList_load_is {P : Program} {w : World} {ops : Array Oper} {rest : List Oper} {o : Oper} {a : Act} {Q : Exit → Act → World → Prop} (hg : o.guard = none) (ty : TypeId) (x : Operand) (hop : o.op = .load ty x) (vx v : Value) (hx : a.eval x = vx)
    (hrun : (Instr.loadAt ty vx).run P w = .ok v w) (hK : wpList P ops Q rest (a.put o.dst v) w) : wpList P ops Q (o :: rest) a w := by
  refine wpList_plain hg fun K hK' => ?_
  unfold Oper.wp execOp
  simp only [hop, hx, hrun, Sem.run_bind, Result.andThen_ok, Sem.run_pure]
  exact hK' _ _ hK

theorem wpList_store_is {P : Program} {w w' : World} {ops : Array Oper} {rest : List Oper} {o : Oper} {a : Act} {Q : Exit → Act → World → Prop} (hg : o.guard = none) (ty : TypeId) (x y : Operand) (hop : o.op = .store ty x y) (vx vy : Value) (hx : a.eval x = vx) (hy : a.eval y = vy)
    (hd : o.dst = none) (hrun : (Instr.storeAt ty vx vy).run P w = .ok () w') (hK : wpList P ops Q rest a w') : wpList P ops Q (o :: rest) a w := by
  refine wpList_plain hg fun K hK' => ?_
  unfold Oper.wp execOp
  simp only [hop, hx, hy, hrun, Sem.run_bind, Result.andThen_ok, Sem.run_pure]
  refine hK' _ _ ?_
  rw [hd]
  exact hK

/-- A result that lies in a cell. -/
theorem results_cell {P : Program} {fn : Func} {t : Tmp} {ty : TypeId} (h : fn.results = #[.cell t ty]) (tmps : Array Value) (w : World) (b : Nat) (v : Value) (ht : tmps.getD t undef = .pointer (some ⟨b, 0, none⟩))
    (hl : (Instr.loadAt ty (.pointer (some ⟨b, 0, none⟩))).run P w = .ok v w) : (results fn tmps).run P w = .ok v w := by
  simp only [Instr.loadAt, Instr.sureAddr, Sem.run_bind, Sem.run_pure, Result.andThen_ok] at hl
  rw [Array.getD_eq_getD_getElem?] at ht
  simp [results, h, ht, hl, asAddr]

theorem setRow_at {w : World} {b : Nat} {old c : Array Value} {t : TypeId} (h : w.heap[b]? = some (.cells old t)) : (w.setRow b c).heap[b]? = some (.cells c t) := setRow_heap w b old c t (0, 0) h

theorem below_row {B g : Nat} {w0 w : World} (hb : Below B w0 w) (hBg : B ≤ g) (cs : Array Value) : Below B w0 (w.setRow g cs) := 
  hb.trans ⟨rfl, rfl, rfl, by simp, fun k hk => setRow_other w g k cs (by omega)⟩

theorem heap_old {w : World} {o : Obj} {k : Nat} (h : k < w.heap.size) : (w.alloc o).heap[k]? = w.heap[k]? := Below.heap_alloc w o k h

theorem heap_new {w : World} {o : Obj} {k : Nat} (h : k = w.heap.size) : (w.alloc o).heap[k]? = some o := by subst h; exact heap_alloc_last w o

theorem below_cell {B : Nat} {w w' : World} (h : Below B w w') {b i : Nat} (hb : b < B) : w'.cell? ⟨b, i, none⟩ = w.cell? ⟨b, i, none⟩ := h.cell (p := ⟨b, i, none⟩) hb

/-- A table of words at the head of block b. -/
def Tab (w : World) (b n : Nat) (f : Nat → Int) : Prop := b < w.heap.size ∧ ∀ i, i < n → w.cell? ⟨b, i, none⟩ = some (.int .u32 (f i))

theorem Tab.below {w w' : World} {b n : Nat} {f : Nat → Int} (h : Tab w b n f) (hb : Below w.heap.size w w') : Tab w' b n f :=
  ⟨Nat.lt_of_lt_of_le h.1 hb.size, fun i hi => (below_cell hb h.1).trans (h.2 i hi)⟩

theorem heap_drew (w : World) (k : Nat) : w.drew.heap[k]? = w.heap[k]? := rfl

theorem info8 : (Tryd.prog.info? 5).map (fun i => (i.zero, i.size, i.bytes)) = some (some (.int .u8 0), 1, 1) := by kernel_rfl

/-- The bytes of a slice, whatever it is. -/
def Bys (w : World) (a : Option Addr) (len cap : Nat) (m : Nat → Int) : Prop :=
  (a = none ∧ len = 0 ∧ cap = 0) ∨ (∃ x, a = some x ∧ len = 0) ∨ ∃ b off, a = some ⟨b, off, none⟩ ∧ len ≤ cap ∧ cap ≤ 9223372036854775807 ∧ b < w.heap.size ∧ ∀ j, j < len → w.cell? ⟨b, off + j, none⟩ = some (.int .u8 (m j))

def bl (m : Nat → Int) (n : Nat) : List Value := (List.range n).map fun i => Value.int .u8 (m i)

theorem bl_len (m : Nat → Int) (n : Nat) : (bl m n).length = n := by simp [bl]

theorem bl_one (m : Nat → Int) (n : Nat) : ∀ u ∈ bl m n, u.oneCell' = true := by
  intro u hu
  obtain ⟨i, _, rfl⟩ := List.mem_map.1 hu
  rfl

theorem bl_get (m : Nat → Int) (n j : Nat) (u : Value) (h : (bl m n)[j]? = some u) : j < n ∧ u = .int .u8 (m j) := by
  have hj := (List.getElem?_eq_some_iff.1 h).1
  rw [bl_len] at hj
  refine ⟨hj, ?_⟩
  unfold bl at h
  rw [List.getElem?_map, List.getElem?_range hj] at h
  simpa using h.symm

theorem bl_at (m : Nat → Int) (n j : Nat) (hj : j < n) : (bl m n)[j]? = some (.int .u8 (m j)) := by
  unfold bl
  rw [List.getElem?_map, List.getElem?_range hj]
  rfl

theorem bl_snoc (m : Nat → Int) (n : Nat) (v : Int) (hv : v = m n) : bl m n ++ [.int .u8 v] = bl m (n + 1) := by
  unfold bl
  rw [List.range_succ, List.map_append, hv]
  rfl

theorem Bys.below {w w' : World} {a : Option Addr} {len cap : Nat} {m : Nat → Int} (h : Bys w a len cap m) (hb : Below w.heap.size w w') : Bys w' a len cap m := by
  rcases h with h | h | ⟨b, off, h1, h2, h3, h4, h5⟩
  · exact .inl h
  · exact .inr (.inl h)
  · exact .inr (.inr ⟨b, off, h1, h2, h3, Nat.lt_of_lt_of_le h4 hb.size, fun j hj => (below_cell hb h4).trans (h5 j hj)⟩)

theorem addr_add (b off j : Nat) : (⟨b, off, none⟩ : Addr).add j = ⟨b, off + j, none⟩ := by
  cases j <;> simp [Addr.add]

theorem owns_pos {W : World} {base : Nat} {e : TypeId} {size : Nat} {v : Value} {k : Nat} {xs : List Value} (h : W.ownsRow base e size v k xs) (hk : 0 < k) : ∃ g cap, v = .slice (some ⟨g, 0, none⟩) k cap := by
  rcases h.2 with ⟨_, h1⟩ | ⟨g, cap, cur, h1, _⟩
  · omega
  · exact ⟨g, cap, h1⟩

/-- append of bytes onto a slice of the call's own. -/
theorem wpList_append_bys (w : World) {ops : Array Oper} {rest : List Oper} {o : Oper} {a : Act} {Q : Exit → Act → World → Prop} (hgd : o.guard = none) (s x : Operand)
    (ho : o.op = .call { callee := .builtin .append, args := #[s, x], argTypes := #[39, 39] })
    (base : Nat) (v : Value) (n : Nat) (xs : List Value) (hs : a.eval s = v) (hown : w.ownsRow base 5 1 v n xs)
    (ao : Option Addr) (len cap : Nat) (m : Nat → Int) (hx : a.eval x = .slice ao len cap) (hb : Bys w ao len cap m) (hbd : n + len ≤ 140737488355328) (hbase : base ≤ w.heap.size)
    (h : ∀ v' w', w'.ownsRow base 5 1 v' (n + len) (xs ++ bl m len) → w.grownBy w' v.ownBlock → wpList Tryd.prog ops Q rest (a.put o.dst v') w') :
    wpList Tryd.prog ops Q (o :: rest) a w := by
  obtain ⟨i, hi, hz0, hz1, hz2⟩ := info_parts info8
  rcases hb with ⟨rfl, rfl, rfl⟩ | ⟨x0, rfl, rfl⟩ | ⟨b, off, rfl, hlc, hcm, hbl, hc⟩
  · refine wpList_append_own_none hgd s x 39 ho base 5 i 1 Tryd.underlying39 hi v n xs hs hown hx (h v w ?_ ⟨rfl, rfl, rfl, Nat.le_refl _, fun _ _ _ => rfl⟩)
    simpa [bl] using hown
  · exact wpList_append_own w hgd s x 39 ho base 5 i (.int .u8 0) 1 1 Tryd.underlying39 hi hz0 hz1 hz2 rfl (by decide) v n xs hs hown x0 0 cap (bl m 0) hx (by rw [bl_len])
      (fun j u hj => by
        have := (bl_get m 0 j u hj).1
        omega) (bl_one m 0) (by unfold maxLen; omega) (by omega) hbase (fun v' w' h1 h2 _ => h v' w' h1 h2)
  · exact wpList_append_own w hgd s x 39 ho base 5 i (.int .u8 0) 1 1 Tryd.underlying39 hi hz0 hz1 hz2 rfl (by decide) v n xs hs hown ⟨b, off, none⟩ len cap (bl m len) hx (by rw [bl_len]; omega)
      (fun j u hj => by
        obtain ⟨h1, rfl⟩ := bl_get m len j u hj
        rw [addr_add]
        exact hc j h1) (bl_one m len) (by unfold maxLen; omega) (by omega) hbase (fun v' w' h1 h2 _ => h v' w' h1 h2)

/-- append of one byte. -/
theorem wpList_append_byte (w : World) {ops : Array Oper} {rest : List Oper} {o : Oper} {a : Act} {Q : Exit → Act → World → Prop} (hgd : o.guard = none) (s x : Operand)
    (ho : o.op = .call { callee := .builtin .append, args := #[s, x], argTypes := #[39, 39] })
    (base : Nat) (v : Value) (n : Nat) (m : Nat → Int) (z : Int) (hs : a.eval s = v) (hown : w.ownsRow base 5 1 v n (bl m n))
    (hx : a.eval x = .slice (some ⟨w.heap.size, 0, none⟩) 1 1) (hz : z = m n) (hbd : n + 1 ≤ 140737488355328) (hbase : base ≤ w.heap.size)
    (h : ∀ g C w', w'.ownsRow base 5 1 (.slice (some ⟨g, 0, none⟩) (n + 1) C) (n + 1) (bl m (n + 1)) → w.grownBy w' v.ownBlock → wpList Tryd.prog ops Q rest (a.put o.dst (.slice (some ⟨g, 0, none⟩) (n + 1) C)) w') :
    wpList Tryd.prog ops Q (o :: rest) a (w.alloc (.cells #[.int .u8 z] 5)) := by
  obtain ⟨i, hi, hz0, hz1, hz2⟩ := info_parts info8
  refine wpList_append_own _ hgd s x 39 ho base 5 i (.int .u8 0) 1 1 Tryd.underlying39 hi hz0 hz1 hz2 rfl (by decide) v n (bl m n) hs (hown.alloc _) ⟨w.heap.size, 0, none⟩ 1 1 [.int .u8 z] hx rfl (cell_one_new _ _ _)
    (fun u hu => by simp at hu; subst hu; rfl) (by unfold maxLen; omega) (by omega) (by simp; omega) (fun v' w' h1 h2 _ => ?_)
  rw [bl_snoc m n z hz] at h1
  obtain ⟨g, C, rfl⟩ := owns_pos h1 (by omega)
  refine h g C w' h1 ⟨h2.os, h2.tape, h2.output, ?_, fun k hk hne => ?_⟩
  · have := h2.size
    simp at this
    omega
  · exact (h2.block k (by simp; omega) hne).trans (heap_old hk)

theorem below_grown {B : Nat} {w0 w w' : World} {v : Value} {n : Nat} {xs : List Value} {e : TypeId} (hb : Below B w0 w) (ho : w.ownsRow B e 1 v n xs) (hB : B ≤ w.heap.size) (hg : w.grownBy w' v.ownBlock) : Below B w0 w' :=
  ⟨hg.os.trans hb.os, hg.tape.trans hb.tape, hg.output.trans hb.output, Nat.le_trans hb.size hg.size, fun k hk => (hg.block k (by omega) (fun e => by have := (ho.lt k e.symm).1; omega)).trans (hb.block k hk)⟩

def sliceLen : Value → Nat
  | .slice _ n _ => n
  | _ => 0

theorem own_cells {w : World} {B : Nat} {g n C : Nat} {m : Nat → Int} (h : w.ownsRow B 5 1 (.slice (some ⟨g, 0, none⟩) n C) n (bl m n)) : B ≤ g ∧ g < w.heap.size ∧ n ≤ C ∧ C ≤ 9223372036854775807 ∧ ∀ j, j < n → w.cell? ⟨g, j, none⟩ = some (.int .u8 (m j)) := by
  have hl := h.lt g rfl
  refine ⟨hl.1, hl.2, ?_, ?_, fun j hj => ?_⟩
  · rcases h.2 with ⟨h1, _⟩ | ⟨g', cap, cur, h1, _, _, h2, _⟩
    · cases h1
    · cases h1; exact h2
  · rcases h.2 with ⟨h1, _⟩ | ⟨g', cap, cur, h1, _, _, h2, h3, _⟩
    · cases h1
    · cases h1; unfold maxLen at h3; omega
  · have := h.cells (g := g) rfl j _ (bl_at m n j hj)
    rw [addr_add, Nat.zero_add] at this
    exact this

/-- A slice of bytes, whole. -/
def sl22 (x : Value) (lo hi : Option Value) : Sem Value := Instr.sliceAt 39 x lo hi none

theorem sl22_eq (x : Value) (lo hi : Option Value) : Instr.sliceAt 39 x lo hi none = sl22 x lo hi := rfl

theorem sl22_run (W : World) (ao : Option Addr) (len cap lo hi : Nat) (l h : Option Value) (hl : l = some (.int .i64 lo) ∨ l = none ∧ lo = 0) (hh : h = some (.int .i64 hi) ∨ h = none ∧ hi = len) (h1 : lo ≤ hi) (h2 : hi ≤ len) (h3 : len ≤ cap) :
    (sl22 (.slice ao len cap) l h).run Tryd.prog W = .ok (.slice (if cap = lo then ao else ao.map (·.add lo)) (hi - lo) (cap - lo)) W := by
  have hi8 : ∃ i, Tryd.prog.info? 5 = some i ∧ i.size = 1 := by
    obtain ⟨i, hi, _, hz, _⟩ := info_parts info8
    exact ⟨i, hi, hz⟩
  obtain ⟨i, hi8, hz⟩ := hi8
  have b1 : ∀ (k n : Nat) (c : BoundsCode), k ≤ n → (Instr.sliceBound (.int .i64 (k : Int)) n c).run Tryd.prog W = .ok k W := by
    intro k n c hk
    have h0 : (k : Int) ≤ (n : Int) := by omega
    simp [Instr.sliceBound, asIntOf, h0]
  have c1 := fun c => b1 lo hi c h1
  have c2 := fun c => b1 hi cap c (by omega)
  unfold sl22 Instr.sliceAt
  rcases hl with rfl | ⟨rfl, rfl⟩ <;> rcases hh with rfl | ⟨rfl, rfl⟩ <;>
    simp [run_underlying Tryd.underlying39, Instr.slice, Instr.sliceBounds, c1, c2, sizeOf, typeInfo, hi8, hz]

end Go.Proofs.YtmpagacbmoeipaaDoor.Z

namespace Go.Proofs.YtmpagacbmoeipaaDoor.Z

open Go.RowKit

end Go.Proofs.YtmpagacbmoeipaaDoor.Z

namespace Go.Proofs.YtmpagacbmoeipaaDoor.Z

open Go.RowKit

set_option linter.unusedVariables false

set_option linter.unusedSimpArgs false

def num8 (z0 z1 z2 z3 z4 z5 z6 z7 : Int) : Int := z0 + z1 * 256 + z2 * 65536 + z3 * 16777216 + z4 * 4294967296 + z5 * 1099511627776 + z6 * 281474976710656 + z7 * 72057594037927936

/-- The number that four bytes from place k on are, the lowest first. -/
def o4 (m : Nat → Int) (k : Nat) : Int := m k + m (k + 1) * 256 + m (k + 2) * 65536 + m (k + 3) * 16777216

def cp22 (ty : TypeId) (x y : Value) : Sem Value := Builtin.copy_ #[39, 39] ty #[x, y]

theorem cp22_eq (ty : TypeId) (x y : Value) : Builtin.copy_ #[39, 39] ty #[x, y] = cp22 ty x y := rfl

attribute [local go_sem ↓] cp22_eq

end Go.Proofs.YtmpagacbmoeipaaDoor.Z

namespace Go.Proofs.YtmpagacbmoeipaaDoor.Z

open Go.RowKit

set_option linter.unusedVariables false

set_option linter.unusedSimpArgs false

/-- The numbers of a slice, whatever it is. -/
def Nms (k : IntKind) (w : World) (a : Option Addr) (n : Nat) (zs : Nat → Int) : Prop :=
  n = 0 ∨ ∃ b off, a = some ⟨b, off, none⟩ ∧ b < w.heap.size ∧ ∀ j, j < n → w.cell? ⟨b, off + j, none⟩ = some (.int k (zs j))

theorem Nms.below {k : IntKind} {w w' : World} {a : Option Addr} {n : Nat} {zs : Nat → Int} (h : Nms k w a n zs) (hb : Below w.heap.size w w') : Nms k w' a n zs := by
  rcases h with h | ⟨b, off, h1, h2, h3⟩
  · exact .inl h
  · exact .inr ⟨b, off, h1, Nat.lt_of_lt_of_le h2 hb.size, fun j hj => (below_cell hb h2).trans (h3 j hj)⟩

/-- Are they sizes? -/
def okS (z : Int) : Prop := 0 ≤ z ∧ z ≤ 65536

instance (z : Int) : Decidable (okS z) := by unfold okS; infer_instance

end Go.Proofs.YtmpagacbmoeipaaDoor.Z

namespace Go.Proofs.YtmpagacbmoeipaaDoor.Z

open Go.RowKit

set_option linter.unusedVariables false

set_option linter.unusedSimpArgs false

theorem ownsRow_kept {w w' : World} {base : Nat} {e : TypeId} {v : Value} {n : Nat} {xs : List Value} (h : w.ownsRow base e 1 v n xs) (hk : ∀ (g : Nat) (cur : Array Value), w.heap[g]? = some (.cells cur e (0, 0)) → w'.heap[g]? = w.heap[g]?) : w'.ownsRow base e 1 v n xs := by
  refine ⟨h.1, ?_⟩
  rcases h.2 with h1 | ⟨g, cap, cur, h1, h2, h3, h4⟩
  · exact .inl h1
  · exact .inr ⟨g, cap, cur, h1, h2, (hk g cur h3).trans h3, h4⟩

theorem owns_below {w w' : World} {base : Nat} {e : TypeId} {v : Value} {n : Nat} {xs : List Value} (h : w.ownsRow base e 1 v n xs) (hb : Below w.heap.size w w') : w'.ownsRow base e 1 v n xs :=
  ownsRow_kept h fun g cur hg => hb.block g (Array.getElem?_eq_some_iff.1 hg).1

attribute [local go_sem ↓] sl22_eq

end Go.Proofs.YtmpagacbmoeipaaDoor.Z

namespace Go.Proofs.YtmpagacbmoeipaaDoor.Z

open Go.RowKit

set_option linter.unusedVariables false

set_option linter.unusedSimpArgs false

/-- None below the one ahead of it, none above L. -/
def ordAt (os : Nat → Int) (L : Int) (i : Nat) : Prop := (if i = 0 then 0 else os (i - 1)) ≤ os i ∧ os i ≤ L

instance (os : Nat → Int) (L : Int) (i : Nat) : Decidable (ordAt os L i) := by unfold ordAt; infer_instance

def sm22 (x : Value) (lo hi mx : Option Value) : Sem Value := Instr.sliceAt 39 x lo hi mx

theorem sm22_eq (x : Value) (lo hi mx : Value) : Instr.sliceAt 39 x (some lo) (some hi) (some mx) = sm22 x (some lo) (some hi) (some mx) := rfl

attribute [local go_sem ↓] sm22_eq

end Go.Proofs.YtmpagacbmoeipaaDoor.Z

namespace Go.Proofs.YtmpagacbmoeipaaDoor.Z

open Go.RowKit

set_option linter.unusedVariables false

set_option linter.unusedSimpArgs false

end Go.Proofs.YtmpagacbmoeipaaDoor.Z

namespace Go.Proofs.YtmpagacbmoeipaaDoor.Z

open Go.RowKit

set_option linter.unusedVariables false

set_option linter.unusedSimpArgs false

end Go.Proofs.YtmpagacbmoeipaaDoor.Z

namespace Go.Proofs.YtmpagacbmoeipaaDoor.Z

open Go.RowKit

set_option linter.unusedVariables false

set_option linter.unusedSimpArgs false

end Go.Proofs.YtmpagacbmoeipaaDoor.Z

namespace Go.Proofs.YtmpagacbmoeipaaDoor.Z

open Go.RowKit

set_option linter.unusedVariables false

set_option linter.unusedSimpArgs false

end Go.Proofs.YtmpagacbmoeipaaDoor.Z

namespace Go.Proofs.YtmpagacbmoeipaaDoor.Z

open Go.RowKit

set_option linter.unusedVariables false

set_option linter.unusedSimpArgs false

end Go.Proofs.YtmpagacbmoeipaaDoor.Z

namespace Go.Proofs.YtmpagacbmoeipaaDoor.Z

open Go.RowKit

set_option linter.unusedVariables false

set_option linter.unusedSimpArgs false

/-- The byte at place i, the lowest first. -/
def bt (n : Int) : Nat → Int
  | 0 => n % 256
  | 1 => n / 256 % 256
  | 2 => n / 65536 % 256
  | 3 => n / 16777216 % 256
  | 4 => n / 4294967296 % 256
  | 5 => n / 1099511627776 % 256
  | 6 => n / 281474976710656 % 256
  | _ => n / 72057594037927936 % 256

end Go.Proofs.YtmpagacbmoeipaaDoor.Z

namespace Go.Proofs.YtmpagacbmoeipaaDoor.Z

open Go.RowKit

set_option linter.unusedVariables false

set_option linter.unusedSimpArgs false

end Go.Proofs.YtmpagacbmoeipaaDoor.Z

namespace Go.Proofs.YtmpagacbmoeipaaDoor.Z

open Go.RowKit

set_option linter.unusedVariables false

set_option linter.unusedSimpArgs false

end Go.Proofs.YtmpagacbmoeipaaDoor.Z

namespace Go.Proofs.YtmpagacbmoeipaaDoor.Z

open Go.RowKit

set_option linter.unusedVariables false

set_option linter.unusedSimpArgs false

/-- Two rows of the call's own, apart. -/
def Two (w : World) (B : Nat) (v : Value) (n : Nat) (xs : List Value) (u : Value) (m : Nat) (ys : List Value) : Prop :=
  w.ownsRow B 5 1 v n xs ∧ w.ownsRow B 5 1 u m ys ∧ ∀ k, v.ownBlock = some k → u.ownBlock ≠ some k

theorem Two.below {w w' : World} {B : Nat} {v : Value} {n : Nat} {xs : List Value} {u : Value} {m : Nat} {ys : List Value} (h : Two w B v n xs u m ys) (hb : Below w.heap.size w w') : Two w' B v n xs u m ys :=
  ⟨owns_below h.1 hb, owns_below h.2.1 hb, h.2.2⟩

theorem Two.step {w w' : World} {B : Nat} {v v' : Value} {n n' : Nat} {xs xs' : List Value} {u : Value} {m : Nat} {ys : List Value} (h : Two w B v n xs u m ys) (ho : w'.ownsRow B 5 1 v' n' xs') (hg : w.grownBy w' v.ownBlock) (hl : v'.ownBlock = v.ownBlock ∨ v'.ownBlock = some w.heap.size) : Two w' B v' n' xs' u m ys := by
  obtain ⟨h1, h2, h3⟩ := h
  refine ⟨ho, ?_, fun k hk hu => ?_⟩
  · refine ⟨h2.1, ?_⟩
    rcases h2.2 with h4 | ⟨g, cap, cur, h4, h5, h6, h7⟩
    · exact .inl h4
    · refine .inr ⟨g, cap, cur, h4, h5, ?_, h7⟩
      rw [← h6]
      refine hg.block g (Array.getElem?_eq_some_iff.1 h6).1 fun e => ?_
      exact h3 g e.symm (by rw [h4]; rfl)
  · rcases hl with hl | hl
    · exact h3 k (hl ▸ hk) hu
    · have := (h2.lt k hu).2
      rw [hl] at hk
      cases hk
      omega

end Go.Proofs.YtmpagacbmoeipaaDoor.Z

namespace Go.Proofs.YtmpagacbmoeipaaDoor.Z

open Go.RowKit

set_option linter.unusedVariables false

set_option linter.unusedSimpArgs false

end Go.Proofs.YtmpagacbmoeipaaDoor.Z

namespace Go.Proofs.YtmpagacbmoeipaaDoor.Z

open Go.RowKit

set_option linter.unusedVariables false

set_option linter.unusedSimpArgs false

end Go.Proofs.YtmpagacbmoeipaaDoor.Z

namespace Go.Proofs.YtmpagacbmoeipaaDoor.Z

open Go.RowKit

set_option linter.unusedVariables false

set_option linter.unusedSimpArgs false

end Go.Proofs.YtmpagacbmoeipaaDoor.Z

namespace Go.Proofs.YtmpagacbmoeipaaDoor.Z

open Go.RowKit

set_option linter.unusedVariables false

set_option linter.unusedSimpArgs false

/-- Do the offsets rise, from the first on, none above n? -/
def risAt (os : Nat → Int) (first n : Int) (i : Nat) : Prop := (if i = 0 then os 0 = first else os (i - 1) ≤ os i) ∧ os i ≤ n

instance (os : Nat → Int) (first n : Int) (i : Nat) : Decidable (risAt os first n i) := by unfold risAt; infer_instance

end Go.Proofs.YtmpagacbmoeipaaDoor.Z

namespace Go.Proofs.YtmpagacbmoeipaaDoor.Z

open Go.RowKit

set_option linter.unusedVariables false

set_option linter.unusedSimpArgs false

end Go.Proofs.YtmpagacbmoeipaaDoor.Z

namespace Go.Proofs.YtmpagacbmoeipaaDoor

open Go.RowKit

set_option linter.unusedVariables false

set_option linter.unusedSimpArgs false

/-- Eight bytes in an array, kept whole. -/
def sv8 (a : Addr) (v : Value) : Sem Unit := storeVar 77 a v

theorem sv8_eq (a : Addr) (v : Value) : storeVar 77 a v = sv8 a v := rfl

theorem sv8_newv (W : World) (o c : Nat → Int) : (sv8 ⟨W.heap.size, 0, none⟩ (.agg (vs .u8 8 c))).run Tryd.prog (W.alloc (.cells (vs .u8 8 o) 77)) = .ok () (W.alloc (.cells (vs .u8 8 c) 77)) :=
  run_storeVar_new W 77 _ _ (by rw [vs_size]; kernel_rfl) (by rw [vs_size, vs_size]) (vs_one _ _ _)

theorem zero_8 : ∀ w : World, (zeroValue 77).run Tryd.prog w = .ok (.agg (vs .u8 8 fun _ => 0)) w := (zero_of_info (n := 8) (by kernel_rfl)).1

end Go.Proofs.YtmpagacbmoeipaaDoor

namespace Go.Proofs.YtmpagacbmoeipaaDoor

open Go.RowKit

set_option linter.unusedVariables false

set_option linter.unusedSimpArgs false

attribute [local go_sem ↓] sv24_eq lv24_eq ix22_eq slr_eq bd27_eq bs22_eq sv8_eq

/-- The root of bytes. -/
def cks (len : Nat) : Nat := (len + 31) / 32

def bR (f : Nat → Int) (len : Nat) : Nat → Int := treeV (pk f len) (cks len) (cks len : Nat)

end Go.Proofs.YtmpagacbmoeipaaDoor

namespace Go.Proofs.YtmpagacbmoeipaaDoor

open Go.RowKit

set_option linter.unusedVariables false

set_option linter.unusedSimpArgs false

end Go.Proofs.YtmpagacbmoeipaaDoor

namespace Go.Proofs.YtmpagacbmoeipaaDoor

open Go.RowKit

set_option linter.unusedVariables false

set_option linter.unusedSimpArgs false

attribute [local go_sem ↓] sv24_eq lv24_eq ix22_eq slr_eq bd27_eq bs22_eq sv8_eq

end Go.Proofs.YtmpagacbmoeipaaDoor

namespace Go.Proofs.YtmpagacbmoeipaaDoor

open Go.RowKit

set_option linter.unusedVariables false

set_option linter.unusedSimpArgs false

/-- A field in memory. -/
inductive Seg where
  | by (n : Nat) (f : Nat → Int)
  | nu (e : Int)
  | bo (b : Bool)
  | sl (a : Option Addr) (n c : Nat)

def Seg.len : Seg → Nat
  | .by n _ => n
  | .nu _ => 1
  | .bo _ => 1
  | .sl _ _ _ => 1

def Seg.get : Seg → Nat → Value
  | .by _ f, j => .int .u8 (f j)
  | .nu e, _ => .int .u64 e
  | .bo b, _ => .bool b
  | .sl a n c, _ => .slice a n c

def celL : List Seg → List Value
  | [] => []
  | s :: r => (List.range s.len).map s.get ++ celL r

def cel (l : List Seg) : Array Value := (celL l).toArray

/-- Where a field begins. -/
def sof : List Seg → Nat → Nat
  | [], _ => 0
  | _ :: _, 0 => 0
  | s :: r, i + 1 => s.len + sof r i

def slen : List Seg → Nat
  | [] => 0
  | s :: r => s.len + slen r

theorem celL_len : ∀ l, (celL l).length = slen l
  | [] => rfl
  | s :: r => by
    show ((List.range s.len).map s.get ++ celL r).length = s.len + slen r
    rw [List.length_append, List.length_map, List.length_range, celL_len r]

theorem cel_size (l : List Seg) : (cel l).size = slen l := by
  unfold cel
  rw [List.size_toArray, celL_len]

theorem celL_at : ∀ (l : List Seg) (i j : Nat) (s : Seg), l[i]? = some s → j < s.len → (celL l)[sof l i + j]? = some (s.get j)
  | [], i, j, s, h, _ => by simp at h
  | x :: r, 0, j, s, h, hj => by
    have e : x = s := by simpa using h
    subst e
    show ((List.range x.len).map x.get ++ celL r)[0 + j]? = _
    rw [Nat.zero_add, List.getElem?_append_left (by simpa using hj), List.getElem?_map, List.getElem?_range hj]
    rfl
  | x :: r, i + 1, j, s, h, hj => by
    have h' : r[i]? = some s := by simpa using h
    show ((List.range x.len).map x.get ++ celL r)[x.len + sof r i + j]? = _
    rw [List.getElem?_append_right (by simp; omega), List.length_map, List.length_range, show x.len + sof r i + j - x.len = sof r i + j by omega]
    exact celL_at r i j s h' hj

theorem cel_at (l : List Seg) (i j : Nat) (s : Seg) (h : l[i]? = some s) (hj : j < s.len) : (cel l)[sof l i + j]? = some (s.get j) := by
  unfold cel
  rw [List.getElem?_toArray]
  exact celL_at l i j s h hj

theorem celL_one : ∀ l, ∀ u ∈ celL l, u.oneCell' = true
  | [], u, h => by cases h
  | s :: r, u, h => by
    have h' : u ∈ (List.range s.len).map s.get ++ celL r := h
    rw [List.mem_append] at h'
    rcases h' with h' | h'
    · obtain ⟨j, _, rfl⟩ := List.mem_map.1 h'
      cases s <;> rfl
    · exact celL_one r u h'

theorem cel_one (l : List Seg) : (cel l).all (·.oneCell') = true := by
  rw [Array.all_eq_true']
  intro u hu
  exact celL_one l u (by simpa [cel] using hu)

theorem seg_nu {w : World} {g : Nat} {t : TypeId} {l : List Seg} (h : w.heap[g]? = some (.cells (cel l) t)) (i : Nat) (e : Int) (hi : l[i]? = some (.nu e)) (o : Nat) (ho : sof l i = o) : w.cell? ⟨g, o, none⟩ = some (.int .u64 e) := by
  rw [row_cell h, ← ho]
  exact cel_at l i 0 _ hi (by show 0 < 1; omega)

theorem seg_sl {w : World} {g : Nat} {t : TypeId} {l : List Seg} (h : w.heap[g]? = some (.cells (cel l) t)) (i : Nat) (a : Option Addr) (n c : Nat) (hi : l[i]? = some (.sl a n c)) (o : Nat) (ho : sof l i = o) : w.cell? ⟨g, o, none⟩ = some (.slice a n c) := by
  rw [row_cell h, ← ho]
  exact cel_at l i 0 _ hi (by show 0 < 1; omega)

theorem own_at {w : World} {B : Nat} {v : Value} {n : Nat} {f : Nat → Int} (h : w.ownsRow B 5 1 v n (bl f n)) : ∃ a cap, v = .slice a n cap ∧ Bys w a n cap f := by
  obtain ⟨a, cap, e, hb, _⟩ := own_bys h
  exact ⟨a, cap, e, hb⟩

end Go.Proofs.YtmpagacbmoeipaaDoor

namespace Go.Proofs.YtmpagacbmoeipaaDoor

open Go.RowKit

set_option linter.unusedVariables false

set_option linter.unusedSimpArgs false

/-- A value of the type Fork: as it lies in memory, its bytes. -/
structure VFork where
  f0 : Nat → Int
  f1 : Nat → Int
  f2 : Int

def sFork (x : VFork) : List Seg := [.by 4 x.f0, .by 4 x.f1, .nu x.f2]

def OkFork (x : VFork) : Prop := (∀ j, j < 4 → 0 ≤ x.f0 j ∧ x.f0 j < 256) ∧ (∀ j, j < 4 → 0 ≤ x.f1 j ∧ x.f1 j < 256) ∧ (0 ≤ x.f2 ∧ x.f2 < 18446744073709551616)

/-- A value of the type Checkpoint: as it lies in memory, its bytes. -/
structure VCheckpoint where
  f0 : Int
  f1 : Nat → Int

def sCheckpoint (x : VCheckpoint) : List Seg := [.nu x.f0, .by 32 x.f1]

def OkCheckpoint (x : VCheckpoint) : Prop := (0 ≤ x.f0 ∧ x.f0 < 18446744073709551616) ∧ (∀ j, j < 32 → 0 ≤ x.f1 j ∧ x.f1 j < 256)

/-- A value of the type Validator: as it lies in memory, its bytes. -/
structure VValidator where
  f0 : Nat → Int
  f1 : Nat → Int
  f2 : Int
  f3 : Bool
  f4 : Int
  f5 : Int
  f6 : Int
  f7 : Int

def sValidator (x : VValidator) : List Seg := [.by 48 x.f0, .by 32 x.f1, .nu x.f2, .bo x.f3, .nu x.f4, .nu x.f5, .nu x.f6, .nu x.f7]

def OkValidator (x : VValidator) : Prop := (∀ j, j < 48 → 0 ≤ x.f0 j ∧ x.f0 j < 256) ∧ (∀ j, j < 32 → 0 ≤ x.f1 j ∧ x.f1 j < 256) ∧ (0 ≤ x.f2 ∧ x.f2 < 18446744073709551616) ∧ True ∧ (0 ≤ x.f4 ∧ x.f4 < 18446744073709551616) ∧ (0 ≤ x.f5 ∧ x.f5 < 18446744073709551616) ∧ (0 ≤ x.f6 ∧ x.f6 < 18446744073709551616) ∧ (0 ≤ x.f7 ∧ x.f7 < 18446744073709551616)

/-- A value of the type Eth1: as it lies in memory, its bytes. -/
structure VEth1 where
  f0 : Nat → Int
  f1 : Int
  f2 : Nat → Int

def sEth1 (x : VEth1) : List Seg := [.by 32 x.f0, .nu x.f1, .by 32 x.f2]

def OkEth1 (x : VEth1) : Prop := (∀ j, j < 32 → 0 ≤ x.f0 j ∧ x.f0 j < 256) ∧ (0 ≤ x.f1 ∧ x.f1 < 18446744073709551616) ∧ (∀ j, j < 32 → 0 ≤ x.f2 j ∧ x.f2 j < 256)

/-- A value of the type Header: as it lies in memory, its bytes. -/
structure VHeader where
  f0 : Int
  f1 : Int
  f2 : Nat → Int
  f3 : Nat → Int
  f4 : Nat → Int

def sHeader (x : VHeader) : List Seg := [.nu x.f0, .nu x.f1, .by 32 x.f2, .by 32 x.f3, .by 32 x.f4]

def OkHeader (x : VHeader) : Prop := (0 ≤ x.f0 ∧ x.f0 < 18446744073709551616) ∧ (0 ≤ x.f1 ∧ x.f1 < 18446744073709551616) ∧ (∀ j, j < 32 → 0 ≤ x.f2 j ∧ x.f2 j < 256) ∧ (∀ j, j < 32 → 0 ≤ x.f3 j ∧ x.f3 j < 256) ∧ (∀ j, j < 32 → 0 ≤ x.f4 j ∧ x.f4 j < 256)

/-- A value of the type DepositData: as it lies in memory, its bytes. -/
structure VDepositData where
  f0 : Nat → Int
  f1 : Nat → Int
  f2 : Int
  f3 : Nat → Int

def sDepositData (x : VDepositData) : List Seg := [.by 48 x.f0, .by 32 x.f1, .nu x.f2, .by 96 x.f3]

def OkDepositData (x : VDepositData) : Prop := (∀ j, j < 48 → 0 ≤ x.f0 j ∧ x.f0 j < 256) ∧ (∀ j, j < 32 → 0 ≤ x.f1 j ∧ x.f1 j < 256) ∧ (0 ≤ x.f2 ∧ x.f2 < 18446744073709551616) ∧ (∀ j, j < 96 → 0 ≤ x.f3 j ∧ x.f3 j < 256)

end Go.Proofs.YtmpagacbmoeipaaDoor

namespace Go.Proofs.YtmpagacbmoeipaaDoor

open Go.RowKit

set_option linter.unusedVariables false

set_option linter.unusedSimpArgs false

def lvFork (a : Addr) : Sem Value := loadVar 28 a

theorem lvFork_eq (a : Addr) : loadVar 28 a = lvFork a := rfl

def lvCheckpoint (a : Addr) : Sem Value := loadVar 42 a

theorem lvCheckpoint_eq (a : Addr) : loadVar 42 a = lvCheckpoint a := rfl

def lvValidator (a : Addr) : Sem Value := loadVar 73 a

theorem lvValidator_eq (a : Addr) : loadVar 73 a = lvValidator a := rfl

def lvEth1 (a : Addr) : Sem Value := loadVar 34 a

theorem lvEth1_eq (a : Addr) : loadVar 34 a = lvEth1 a := rfl

def lvHeader (a : Addr) : Sem Value := loadVar 30 a

theorem lvHeader_eq (a : Addr) : loadVar 30 a = lvHeader a := rfl

end Go.Proofs.YtmpagacbmoeipaaDoor

namespace Go.Proofs.YtmpagacbmoeipaaDoor

open Go.RowKit

set_option linter.unusedVariables false

set_option linter.unusedSimpArgs false

attribute [local go_sem ↓] sv24_eq lv24_eq ix22_eq slr_eq bd27_eq bs22_eq sv8_eq lvCheckpoint_eq lvHeader_eq

end Go.Proofs.YtmpagacbmoeipaaDoor

namespace Go.Proofs.YtmpagacbmoeipaaDoor

open Go.RowKit

set_option linter.unusedVariables false

set_option linter.unusedSimpArgs false

/-- Roots one behind the other. -/
def fl7 (rs : List (Nat → Int)) (q : Nat) : Int := (rs.getD (q / 32) (fun _ => 0)) (q % 32)

theorem fl7_bd {rs : List (Nat → Int)} (h : ∀ c ∈ rs, ∀ j, j < 32 → 0 ≤ c j ∧ c j < 256) (n : Nat) : ByB (fl7 rs) n := fun q _ => by
  unfold fl7
  rw [List.getD_eq_getElem?_getD]
  cases e : rs[q / 32]? with
  | none => exact ⟨Int.le_refl _, by show (0 : Int) < 256; decide⟩
  | some c => exact h c (List.mem_of_getElem? e) _ (Nat.mod_lt _ (by decide))

theorem bs22_3 (W : World) (a b c : Nat → Int) : (bs22 3 #[(0, .agg (vs .u8 32 a)), (1, .agg (vs .u8 32 b)), (2, .agg (vs .u8 32 c))]).run Tryd.prog W = .ok (.slice (some ⟨W.heap.size, 0, none⟩) 3 3) (W.alloc (.cells (vs .u8 96 (fl7 [a, b, c])) 24)) := by kernel_rfl

end Go.Proofs.YtmpagacbmoeipaaDoor

namespace Go.Proofs.YtmpagacbmoeipaaDoor

open Go.RowKit

set_option linter.unusedVariables false

set_option linter.unusedSimpArgs false

/-- The number that eight bytes are. -/
def rdN (f : Nat → Int) : Int := Z.num8 (f 0) (f 1) (f 2) (f 3) (f 4) (f 5) (f 6) (f 7)

end Go.Proofs.YtmpagacbmoeipaaDoor

namespace Go.Proofs.YtmpagacbmoeipaaDoor

open Go.RowKit

set_option linter.unusedVariables false

set_option linter.unusedSimpArgs false

attribute [local go_sem ↓] sv24_eq lv24_eq ix22_eq slr_eq bd27_eq bs22_eq sv8_eq

end Go.Proofs.YtmpagacbmoeipaaDoor

namespace Go.Proofs.YtmpagacbmoeipaaDoor

open Go.RowKit

set_option linter.unusedVariables false

set_option linter.unusedSimpArgs false

/-- The value of nothing but zeros; the value that bytes are. -/
def oFork : VFork := ⟨fun _ => 0, fun _ => 0, 0⟩

def svFork (a : Addr) (v : Value) : Sem Unit := storeVar 28 a v

theorem svFork_eq (a : Addr) (v : Value) : storeVar 28 a v = svFork a v := rfl

/-- The value of nothing but zeros; the value that bytes are. -/
def oCheckpoint : VCheckpoint := ⟨0, fun _ => 0⟩

def svCheckpoint (a : Addr) (v : Value) : Sem Unit := storeVar 42 a v

theorem svCheckpoint_eq (a : Addr) (v : Value) : storeVar 42 a v = svCheckpoint a v := rfl

/-- The value of nothing but zeros; the value that bytes are. -/
def oValidator : VValidator := ⟨fun _ => 0, fun _ => 0, 0, false, 0, 0, 0, 0⟩

def svValidator (a : Addr) (v : Value) : Sem Unit := storeVar 73 a v

theorem svValidator_eq (a : Addr) (v : Value) : storeVar 73 a v = svValidator a v := rfl

theorem zeroValidator (W : World) : (zeroValue 73).run Tryd.prog W = .ok (.agg (cel (sValidator oValidator))) W := by kernel_rfl

theorem slValidator (x : VValidator) : slen (sValidator x) = 86 := rfl

theorem svValidator_newv (W : World) (o c : VValidator) : (svValidator ⟨W.heap.size, 0, none⟩ (.agg (cel (sValidator c)))).run Tryd.prog (W.alloc (.cells (cel (sValidator o)) 73)) = .ok () (W.alloc (.cells (cel (sValidator c)) 73)) :=
  run_storeVar_new W 73 _ _ (by rw [cel_size, slValidator]; kernel_rfl) (by rw [cel_size, cel_size, slValidator, slValidator]) (cel_one _)

/-- The value of nothing but zeros; the value that bytes are. -/
def oEth1 : VEth1 := ⟨fun _ => 0, 0, fun _ => 0⟩

def svEth1 (a : Addr) (v : Value) : Sem Unit := storeVar 34 a v

theorem svEth1_eq (a : Addr) (v : Value) : storeVar 34 a v = svEth1 a v := rfl

/-- The value of nothing but zeros; the value that bytes are. -/
def oHeader : VHeader := ⟨0, 0, fun _ => 0, fun _ => 0, fun _ => 0⟩

def svHeader (a : Addr) (v : Value) : Sem Unit := storeVar 30 a v

theorem svHeader_eq (a : Addr) (v : Value) : storeVar 30 a v = svHeader a v := rfl

/-- The value of nothing but zeros; the value that bytes are. -/
def oDepositData : VDepositData := ⟨fun _ => 0, fun _ => 0, 0, fun _ => 0⟩

theorem zeroDepositData (W : World) : (zeroValue 58).run Tryd.prog W = .ok (.agg (cel (sDepositData oDepositData))) W := by kernel_rfl

set_option maxRecDepth 20000 in
theorem slDepositData (x : VDepositData) : slen (sDepositData x) = 177 := rfl

end Go.Proofs.YtmpagacbmoeipaaDoor

namespace Go.Proofs.YtmpagacbmoeipaaDoor.Z

open Go.RowKit

set_option linter.unusedVariables false

set_option linter.unusedSimpArgs false

theorem own_bys {w : World} {B : Nat} {a : Option Addr} {n C : Nat} {m : Nat → Int} (h : w.ownsRow B 5 1 (.slice a n C) n (bl m n)) : Bys w a n C m := by
  rcases h.2 with ⟨h1, h0⟩ | ⟨g, cap, cur, h1, _⟩
  · cases h1
    exact .inl ⟨rfl, rfl, rfl⟩
  · cases h1
    obtain ⟨h2, h3, h4, h5, h6⟩ := own_cells h
    exact .inr (.inr ⟨g, 0, rfl, h4, h5, h3, fun j hj => by rw [Nat.zero_add]; exact h6 j hj⟩)

attribute [local go_sem ↓] sl22_eq

end Go.Proofs.YtmpagacbmoeipaaDoor.Z

namespace Go.Proofs.YtmpagacbmoeipaaDoor

open Go.RowKit

set_option linter.unusedVariables false

set_option linter.unusedSimpArgs false

attribute [local go_sem ↓] sv24_eq lv24_eq ix22_eq slr_eq bd27_eq bs22_eq

set_option maxRecDepth 20000 in
set_option maxHeartbeats 1000000 in
theorem must7 (a : Option Addr) (len cap : Nat) (f : Nat → Int) (n : Int) (w : World) (hC : Rc w) (hr : Rts w a len cap f) (hlc : len ≤ cap) (hf : ByB f (32 * len)) (h0 : -9223372036854775808 ≤ n) (h1 : n ≤ 9223372036854775807) (hln : len ≤ 9223372036854775807) :
    Calls Tryd.prog 35 #[.slice a len cap, .int .i64 n] w fun e w' => e = .returned (.agg (vs .u8 32 (treeV f len n))) ∧ Below w.heap.size w w' := by
  have z := zero_root
  have hB0 : Below w.heap.size w (w.alloc (.cells (vs .u8 32 fun _ => 0) 24)) := (Below.refl _ _).alloc (Nat.le_refl _) _
  have r0 : (w.alloc (.cells (vs .u8 32 fun _ => 0) 24)).heap[w.heap.size]? = some (.cells (vs .u8 32 fun _ => 0) 24) := heap_new rfl
  have z0 : (w.alloc (.cells (vs .u8 32 fun _ => 0) 24)).heap.size = w.heap.size + 1 := by simp
  obtain ⟨W0, hW0⟩ : ∃ W, w.alloc (.cells (vs .u8 32 fun _ => 0) 24) = W := ⟨_, rfl⟩
  rw [hW0] at hB0 r0 z0
  have ht := rtreeT_any a len cap f n W0 (hC.below hB0) (hr.below hB0) hlc hf h0 h1 hln
  obtain ⟨C, eC⟩ : ∃ C, treeV f len n = C := ⟨_, rfl⟩
  obtain ⟨E, eE⟩ : ∃ E, treeE len n = E := ⟨_, rfl⟩
  rw [eC, eE] at ht
  rw [eC]
  have sv := fun W => sv24_newv W (fun _ => 0) C
  have HT := hid ht
  have R0 := hid r0
  have HB0 := hid hB0
  clear ht r0 hB0 hC hr hf eC eE
  go_enter Tryd.func35, Tryd.ntmps35
  go_upto_region 2 with (go_at_call 44; refine HT.out.mono ?_; rintro e w1 ⟨rfl, hb1⟩)
  obtain ⟨W2, hW2⟩ : ∃ W, w1.alloc (.cells (vs .u8 32 C) 24) = W := ⟨_, rfl⟩
  rw [hW2]
  have hz1 := hb1.size
  have r1 : W2.heap[w1.heap.size]? = some (.cells (vs .u8 32 C) 24) := by rw [← hW2]; exact heap_new rfl
  have r0' : W2.heap[w.heap.size]? = some (.cells (vs .u8 32 fun _ => 0) 24) := by rw [← hW2]; exact (heap_old (by omega)).trans ((hb1.block _ (by omega)).trans R0.out)
  have hB2 : Below w.heap.size w W2 := by rw [← hW2]; exact (HB0.out.trans (hb1.mono (by omega))).alloc (by omega) _
  have l1 := lv24_run r1
  have s1 := sv24_run r0' C
  have HR0 := hid r0'
  have HB2 := hid hB2
  clear r1 r0' hB2 hW2 hb1 sv HT
  go_wp2
  refine ret24 4 w.heap.size _ 24 rfl rfl rfl (setRow_at HR0.out) ⟨rfl, ?_⟩
  exact below_row HB2.out (Nat.le_refl _) _

end Go.Proofs.YtmpagacbmoeipaaDoor

namespace Go.Proofs.YtmpagacbmoeipaaDoor

open Go.RowKit

set_option linter.unusedVariables false

set_option linter.unusedSimpArgs false

attribute [local go_sem ↓] sv24_eq lv24_eq ix22_eq slr_eq bd27_eq bs22_eq

attribute [local go_sem ↓] sv8_eq

end Go.Proofs.YtmpagacbmoeipaaDoor

namespace Go.Proofs.YtmpagacbmoeipaaDoor

open Go.RowKit

set_option linter.unusedVariables false

set_option linter.unusedSimpArgs false

end Go.Proofs.YtmpagacbmoeipaaDoor

namespace Go.Proofs.YtmpagacbmoeipaaDoor

open Go.RowKit

set_option linter.unusedVariables false

set_option linter.unusedSimpArgs false

attribute [local go_sem ↓] sv24_eq lv24_eq ix22_eq slr_eq bd27_eq bs22_eq lvCheckpoint_eq

end Go.Proofs.YtmpagacbmoeipaaDoor

namespace Go.Proofs.YtmpagacbmoeipaaDoor

open Go.RowKit

set_option linter.unusedVariables false

set_option linter.unusedSimpArgs false

/-- The root of 32 bytes is these. -/
theorem bR_32 (f : Nat → Int) (j : Nat) (hj : j < 32) : bR f 32 j = f j := by
  show treeV (pk f 32) 1 (1 : Nat) j = f j
  unfold treeV
  rw [if_pos ⟨by decide, by decide⟩]
  show nd (pk f 32) 1 0 0 j = f j
  show (if 0 < 1 then rt32 (pk f 32) 0 else fun _ => 0) j = f j
  rw [if_pos (by omega)]
  unfold rt32 pk
  rw [if_pos (by omega), Nat.mul_zero, Nat.zero_add]

end Go.Proofs.YtmpagacbmoeipaaDoor

namespace Go.Proofs.YtmpagacbmoeipaaDoor

open Go.RowKit

set_option linter.unusedVariables false

set_option linter.unusedSimpArgs false

namespace Z

end Z

end Go.Proofs.YtmpagacbmoeipaaDoor

namespace Go.Proofs.YtmpagacbmoeipaaDoor

open Go.RowKit

set_option linter.unusedVariables false

set_option linter.unusedSimpArgs false

end Go.Proofs.YtmpagacbmoeipaaDoor

namespace Go.Proofs.YtmpagacbmoeipaaDoor

open Go.RowKit

set_option linter.unusedVariables false

set_option linter.unusedSimpArgs false

end Go.Proofs.YtmpagacbmoeipaaDoor

namespace Go.Proofs.YtmpagacbmoeipaaDoor

open Go.RowKit

set_option linter.unusedVariables false

set_option linter.unusedSimpArgs false

theorem lst_by {H : Type} {enc : TypeId × Value → H} {P : Program} {w : World} {b0 fuel : Nat} {sp : Nat → Bool} {held : Bool} {t e : TypeId} {n : Nat} {cs : List Value} {x : DataW H × List MemPlace}
    (ht : P.underlying t = some (.array n e)) (he : P.underlying e = some (.int .u8)) (hce : P.cellsOf e = 1) (hl : cs.length = n) (h : DataW.trod enc P w b0 sp held fuel t cs = some x) :
    ∃ f : Nat → Int, cs = (List.range n).map (fun j => Value.int .u8 (f j)) ∧ ∀ j, j < n → 0 ≤ f j ∧ f j < 256 := by
  obtain ⟨xs, m, rfl, _, _, hxl, hat⟩ := DataW.trod_array ht h
  have hcell : ∀ i, i < n → ∃ z, cs[i]? = some (.int .u8 z) ∧ (Lit.int .u8 z).wf = true := by
    intro i hi
    have ha := hat i hi
    rw [List.getElem?_eq_getElem (by omega)] at ha
    obtain ⟨z, hc, _, hwf⟩ := DataW.trod_int he ha
    refine ⟨z, ?_, hwf⟩
    have := congrArg (·[0]?) hc
    simpa [hce, List.getElem?_take, List.getElem?_drop] using this
  refine ⟨byteOf cs.toArray, ?_, fun j hj => ?_⟩
  · apply List.ext_getElem?
    intro i
    rw [List.getElem?_map]
    by_cases hi : i < n
    · obtain ⟨z, hz, _⟩ := hcell i hi
      rw [List.getElem?_range hi, hz]
      show some _ = some (Value.int .u8 (byteOf cs.toArray i))
      unfold byteOf
      rw [List.getElem?_toArray, hz]
    · rw [List.getElem?_eq_none (by omega), List.getElem?_eq_none (by simpa using hi)]
      rfl
  · obtain ⟨z, hz, hwf⟩ := hcell j hj
    have := bounds_u8 hwf
    unfold byteOf
    rw [List.getElem?_toArray, hz]
    show 0 ≤ z ∧ z < 256
    omega

theorem cut_list (l : List Value) (o k : Nat) : l.drop o = (l.drop o).take k ++ l.drop (o + k) := by
  have := (List.take_append_drop k (l.drop o)).symm
  rw [List.drop_drop] at this
  exact this

theorem open_str {H : Type} {enc : TypeId × Value → H} {P : Program} {W w : World} {r : Reach} {base b0 : Nat} {sp : Nat → Bool} {held : Bool} {t : TypeId} {fs : Array Field} {v : Value} {d : DataW H} {p : List MemPlace}
    (ht : P.underlying t = some (.struct fs)) (hv : Value.okWide P W r base t v) (h : DataW.Trod enc P w b0 sp held t v d p) :
    ∃ cs : Array Value, v = .agg cs ∧ cs.size = P.cellsOf t ∧ ∃ (xs : List (DataW H × List MemPlace)) (n : Nat), xs.length = fs.size ∧ ∀ (i : Nat) (f : Field), fs[i]? = some f → DataW.trod enc P w b0 sp held n f.type ((cs.toList.drop f.offset).take (P.cellsOf f.type)) = xs[i]? := by
  unfold Value.okWide at hv
  rw [ht] at hv
  obtain ⟨cs, rfl, hs, _⟩ := hv
  obtain ⟨fuel, hf⟩ := h
  obtain ⟨xs, n, _, _, hl, hxl, hat⟩ := DataW.trod_struct ht hf
  exact ⟨cs, rfl, hs, xs, n, hxl, hat⟩

end Go.Proofs.YtmpagacbmoeipaaDoor

namespace Go.Proofs.YtmpagacbmoeipaaDoor

open Go.RowKit

set_option linter.unusedVariables false

set_option linter.unusedSimpArgs false

end Go.Proofs.YtmpagacbmoeipaaDoor

namespace Go.Proofs.YtmpagacbmoeipaaDoor

open Go.RowKit

set_option linter.unusedVariables false

set_option linter.unusedSimpArgs false

end Go.Proofs.YtmpagacbmoeipaaDoor
