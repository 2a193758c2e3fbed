/-
  Rows of integers, bytes of slices, appends, strings: what the proofs of layer 3 lean on.
  Plain facts on numbers of 64 bits that the walks of package word lean on: disjoint bits, halves of products.
  What word.Read and ssz.readOffset answer.
  What areSizes, inHead, headLength, inOrder answer.
  What headOffsets and inOrder answer.
  What inOrder, bytes.Clone and piece answer.
  What looseParts answers.
  What containerParts answers.
  What ssz.Cut answers where it cuts.
  What the reference's sizesOK and Head answer.
  What the reference's offset answers.
  What word.Bytes, ssz.appendOffset and ssz.totalLength answer.
  Lists of bytes; what the reference's Same and ssz.totalLength answer.
  A container's bytes, cut again.
  What the reference's Lay answers.
  What SszLays answers.
  What was cut, laid again, is the bytes; ssz.Cut whole.
  A container's bytes, cut again: the parts themselves.
  What the reference's rises answers.
  Strings told apart; which bytes have which parts.
  What the containers of layer 7 share.
  What the containers of layer 7 share.
  What the containers of layer 7 share.
-/
import Derived.Test.YtlidilnakiphiaaDoorRows
import Derived.Test.YtlidilnakiphiaaDoorMaE
import Derived.WalkKit
import Derived.WalkSpells
import Derived.WalkLawsBesides
import Derived.OpenShut
import Derived.Handy
import Derived.Deep.RegionHeld3
import Derived.Deep.RegionWith
import Derived.Laws.BitsAllLaws
import Derived.Deep.MidRow
import Derived.Deep.WholeRow
import Derived.Maps.AppendAt
import Derived.Laws.AppendOwnNone
import Derived.Laws.BytesString
import Derived.Deep.AppendSrc
import Derived.Deep.Cut
import Derived.Deep.CutRange
import Derived.Deep.CutBlock
import Derived.Laws.Bits64b
import Derived.Laws.CopyRow
import Derived.Laws.Cover3
import Derived.ScopeJumps
import Derived.Deep.Onto

import Derived.ChangeArms

import Derived.OpenShut

import Derived.WideShapes

namespace Go.Proofs.YtlidilnakiphiaaDoor.Z

open Go.RowKit

set_option linter.unusedVariables false

set_option linter.unusedSimpArgs false

/-- Take number i first. -/
theorem tk {P : Program} {ops : Array Oper} {Q : Exit → Act → World → Prop} {md : Region.Mode} {S : World → Prop} (i : Nat) {oi : Oper} {v : Value} {fuel : Nat} {listed : Array Bool} {a : Act} {w : World}
    (hy : ∀ w, S w → (execOp a.eval oi).run P w = .ok (.value v) w) (hS : S w) (h : wpAnyH P md ops Q S fuel (listed.setIfInBounds i true) (a.put oi.dst v) w)
    (hi : ops[i]? = some oi := by rfl) (hs : Region.noSelect ops = true := by kernel_rfl) (hf : Region.free md ops listed i = true := by kernel_rfl) (hr : (Region.ready md ops listed).contains i = true := by kernel_rfl)
    (hQ : ∀ c a w, Q (.panic c) (a.put oi.dst v) w → Q (.panic c) a w := by exact fun _ _ _ h => h) (hw : Region.wanted oi (yielded ops a.tmps) = true := by kernel_rfl) : wpAnyH P md ops Q S (fuel + 1) listed a w :=
  wpAnyH_take hi hs hf hr hQ (Or.inl ⟨hw, hy⟩) hS h

/-- Number i is not wanted. -/
theorem tl {P : Program} {ops : Array Oper} {Q : Exit → Act → World → Prop} {md : Region.Mode} {S : World → Prop} (i : Nat) {oi : Oper} {fuel : Nat} {listed : Array Bool} {a : Act} {w : World}
    (hS : S w) (h : wpAnyH P md ops Q S fuel (listed.setIfInBounds i true) (a.put oi.dst undef) w)
    (hi : ops[i]? = some oi := by rfl) (hs : Region.noSelect ops = true := by kernel_rfl) (hf : Region.free md ops listed i = true := by kernel_rfl) (hr : (Region.ready md ops listed).contains i = true := by kernel_rfl)
    (hQ : ∀ c a w, Q (.panic c) (a.put oi.dst undef) w → Q (.panic c) a w := by exact fun _ _ _ h => h) (hw : Region.wanted oi (yielded ops a.tmps) = false := by kernel_rfl) : wpAnyH P md ops Q S (fuel + 1) listed a w :=
  wpAnyH_take hi hs hf hr hQ (Or.inr ⟨hw, rfl⟩) hS h

theorem hid {p : Prop} (h : p) : Hid p := h

theorem i64_of (n : Int) (h1 : -9223372036854775808 ≤ n) (h2 : n ≤ 9223372036854775807) : IntKind.i64.wrap n = n := by rw [IntKind.wrap_i64]; omega

/-- n integers of a kind. -/
def vs (k : IntKind) (n : Nat) (f : Nat → Int) : Array Value := ((List.range n).map fun i => Value.int k (f i)).toArray

theorem vs_size (k : IntKind) (n : Nat) (f : Nat → Int) : (vs k n f).size = n := by simp [vs]

theorem vs_get (k : IntKind) (n : Nat) (f : Nat → Int) (i : Nat) (h : i < n) : (vs k n f)[i]? = some (.int k (f i)) := by simp [vs, h]

theorem vs_get_none (k : IntKind) (n : Nat) (f : Nat → Int) (i : Nat) (h : n ≤ i) : (vs k n f)[i]? = none := by simp [vs, h]

theorem vs_congr {k : IntKind} {n : Nat} {f g : Nat → Int} (h : ∀ i, i < n → f i = g i) : vs k n f = vs k n g := by
  unfold vs
  congr 1
  apply List.map_congr_left
  intro i hi
  rw [h i (by simpa using hi)]

theorem vs_set (k : IntKind) (n : Nat) (f : Nat → Int) (i : Nat) (v : Int) : (vs k n f).setIfInBounds i (.int k v) = vs k n (fun j => if j = i then v else f j) := by
  apply Array.ext_getElem?
  intro j
  rw [Array.getElem?_setIfInBounds]
  by_cases e : i = j
  · subst e
    rw [if_pos rfl, vs_size]
    by_cases hn : i < n
    · rw [if_pos hn, vs_get _ _ _ i hn, if_pos rfl]
    · rw [if_neg hn, vs_get_none _ _ _ i (by omega)]
  · rw [if_neg e]
    by_cases hn : j < n
    · rw [vs_get _ _ _ j hn, vs_get _ _ _ j hn, if_neg (fun h => e h.symm)]
    · rw [vs_get_none _ _ _ j (by omega), vs_get_none _ _ _ j (by omega)]

theorem vs_one (k : IntKind) (n : Nat) (f : Nat → Int) : (vs k n f).all (·.oneCell') = true := by
  rw [Array.all_eq_true_iff_forall_mem]
  intro v hv
  simp [vs] at hv
  obtain ⟨i, _, rfl⟩ := hv
  rfl

theorem vs_list (k : IntKind) (n : Nat) (f : Nat → Int) : (vs k n f).toList = (List.range n).map fun i => Value.int k (f i) := by simp [vs]

theorem row_cell {w : World} {b : Nat} {c : Array Value} {t : TypeId} (h : w.heap[b]? = some (.cells c t)) (i : Nat) : w.cell? ⟨b, i, none⟩ = c[i]? := cell_of_row w b i c t (0, 0) h

theorem row_int {w : World} {b n : Nat} {k : IntKind} {f : Nat → Int} {t : TypeId} (h : w.heap[b]? = some (.cells (vs k n f) t)) (i : Nat) (hi : i < n) : w.cell? ⟨b, i, none⟩ = some (.int k (f i)) := by
  rw [row_cell h, vs_get _ _ _ _ hi]

theorem row_set {w : World} {b : Nat} {c : Array Value} {t : TypeId} (h : w.heap[b]? = some (.cells c t)) (i : Nat) (v : Value) : (w.setCell ⟨b, i, none⟩ v).heap[b]? = some (.cells (c.setIfInBounds i v) t) := by
  simp only [World.setCell, Array.getElem?_modify, if_true, h]
  rfl

theorem row_frozen {w : World} {b : Nat} {c : Array Value} {t : TypeId} (h : w.heap[b]? = some (.cells c t)) (i : Nat) : w.frozen? ⟨b, i, none⟩ = false := by
  simp [World.frozen?, h]

theorem heap_set_other {w : World} {b b' i : Nat} {v : Value} (h : b' ≠ b) : (w.setCell ⟨b, i, none⟩ v).heap[b']? = w.heap[b']? := Below.heap_setCell w ⟨b, i, none⟩ v b' h

/-- A whole row, read and written. -/
theorem load_row {P : Program} {w : World} {b : Nat} {c : Array Value} {t : TypeId} (h : w.heap[b]? = some (.cells c t)) (ty : TypeId) (d : TypeDesc) (hu : P.underlying ty = some d) (hd : d.isRow = true) (hi : (P.info? ty).map (·.size) = some c.size) :
    (Instr.loadAt ty (.pointer (some ⟨b, 0, none⟩))).run P w = .ok (.agg c) w := by
  simp only [Instr.loadAt, Instr.sureAddr, Sem.run_bind, Sem.run_pure, Result.andThen_ok]
  exact run_loadVar_row w b t ty c (0, 0) d h hu (by cases d <;> simp_all [TypeDesc.isRow]) hi

theorem store_row {P : Program} {w : World} {b : Nat} {old : Array Value} {t : TypeId} (h : w.heap[b]? = some (.cells old t)) (ty : TypeId) (c : Array Value) (hi : (P.info? ty).map (·.size) = some c.size) (ho : old.size = c.size) (h1 : c.all (·.oneCell') = true) :
    (Instr.storeAt ty (.pointer (some ⟨b, 0, none⟩)) (.agg c)).run P w = .ok () (w.setRow b c) := by
  simp only [Instr.storeAt, Instr.sureAddr, Sem.run_bind, Sem.run_pure, Result.andThen_ok]
  exact run_storeVar_row w b t ty old c h hi ho h1

/-- A load and a store whose runs are known. -/
theorem wpList_load_is {P : Program} {w : World} {ops : Array Oper} {rest : List Oper} {o : Oper} {a : Act} {Q : Exit → Act → World → Prop} (hg : o.guard = none) (ty : TypeId) (x : Operand) (hop : o.op = .load ty x) (vx v : Value) (hx : a.eval x = vx)
    (hrun : (Instr.loadAt ty vx).run P w = .ok v w) (hK : wpList P ops Q rest (a.put o.dst v) w) : wpList P ops Q (o :: rest) a w := by
  refine wpList_plain hg fun K hK' => ?_
  unfold Oper.wp execOp
  simp only [hop, hx, hrun, Sem.run_bind, Result.andThen_ok, Sem.run_pure]
  exact hK' _ _ hK

theorem wpList_store_is {P : Program} {w w' : World} {ops : Array Oper} {rest : List Oper} {o : Oper} {a : Act} {Q : Exit → Act → World → Prop} (hg : o.guard = none) (ty : TypeId) (x y : Operand) (hop : o.op = .store ty x y) (vx vy : Value) (hx : a.eval x = vx) (hy : a.eval y = vy)
    (hd : o.dst = none) (hrun : (Instr.storeAt ty vx vy).run P w = .ok () w') (hK : wpList P ops Q rest a w') : wpList P ops Q (o :: rest) a w := by
  refine wpList_plain hg fun K hK' => ?_
  unfold Oper.wp execOp
  simp only [hop, hx, hy, hrun, Sem.run_bind, Result.andThen_ok, Sem.run_pure]
  refine hK' _ _ ?_
  rw [hd]
  exact hK

/-- A result that lies in a cell. -/
theorem results_cell {P : Program} {fn : Func} {t : Tmp} {ty : TypeId} (h : fn.results = #[.cell t ty]) (tmps : Array Value) (w : World) (b : Nat) (v : Value) (ht : tmps.getD t undef = .pointer (some ⟨b, 0, none⟩))
    (hl : (Instr.loadAt ty (.pointer (some ⟨b, 0, none⟩))).run P w = .ok v w) : (results fn tmps).run P w = .ok v w := by
  simp only [Instr.loadAt, Instr.sureAddr, Sem.run_bind, Sem.run_pure, Result.andThen_ok] at hl
  rw [Array.getD_eq_getD_getElem?] at ht
  simp [results, h, ht, hl, asAddr]

theorem setRow_at {w : World} {b : Nat} {old c : Array Value} {t : TypeId} (h : w.heap[b]? = some (.cells old t)) : (w.setRow b c).heap[b]? = some (.cells c t) := setRow_heap w b old c t (0, 0) h

theorem below_row {B g : Nat} {w0 w : World} (hb : Below B w0 w) (hBg : B ≤ g) (cs : Array Value) : Below B w0 (w.setRow g cs) := 
  hb.trans ⟨rfl, rfl, rfl, by simp, fun k hk => setRow_other w g k cs (by omega)⟩

theorem heap_old {w : World} {o : Obj} {k : Nat} (h : k < w.heap.size) : (w.alloc o).heap[k]? = w.heap[k]? := Below.heap_alloc w o k h

theorem heap_new {w : World} {o : Obj} {k : Nat} (h : k = w.heap.size) : (w.alloc o).heap[k]? = some o := by subst h; exact heap_alloc_last w o

theorem below_cell {B : Nat} {w w' : World} (h : Below B w w') {b i : Nat} (hb : b < B) : w'.cell? ⟨b, i, none⟩ = w.cell? ⟨b, i, none⟩ := h.cell (p := ⟨b, i, none⟩) hb

/-- A table of words at the head of block b. -/
def Tab (w : World) (b n : Nat) (f : Nat → Int) : Prop := b < w.heap.size ∧ ∀ i, i < n → w.cell? ⟨b, i, none⟩ = some (.int .u32 (f i))

theorem Tab.below {w w' : World} {b n : Nat} {f : Nat → Int} (h : Tab w b n f) (hb : Below w.heap.size w w') : Tab w' b n f :=
  ⟨Nat.lt_of_lt_of_le h.1 hb.size, fun i hi => (below_cell hb h.1).trans (h.2 i hi)⟩

theorem heap_drew (w : World) (k : Nat) : w.drew.heap[k]? = w.heap[k]? := rfl

theorem info8 : (Tryd.prog.info? 5).map (fun i => (i.zero, i.size, i.bytes)) = some (some (.int .u8 0), 1, 1) := by kernel_rfl

/-- The bytes of a slice, whatever it is. -/
def Bys (w : World) (a : Option Addr) (len cap : Nat) (m : Nat → Int) : Prop :=
  (a = none ∧ len = 0 ∧ cap = 0) ∨ (∃ x, a = some x ∧ len = 0) ∨ ∃ b off, a = some ⟨b, off, none⟩ ∧ len ≤ cap ∧ cap ≤ 9223372036854775807 ∧ b < w.heap.size ∧ ∀ j, j < len → w.cell? ⟨b, off + j, none⟩ = some (.int .u8 (m j))

def bl (m : Nat → Int) (n : Nat) : List Value := (List.range n).map fun i => Value.int .u8 (m i)

theorem bl_len (m : Nat → Int) (n : Nat) : (bl m n).length = n := by simp [bl]

theorem bl_one (m : Nat → Int) (n : Nat) : ∀ u ∈ bl m n, u.oneCell' = true := by
  intro u hu
  obtain ⟨i, _, rfl⟩ := List.mem_map.1 hu
  rfl

theorem bl_get (m : Nat → Int) (n j : Nat) (u : Value) (h : (bl m n)[j]? = some u) : j < n ∧ u = .int .u8 (m j) := by
  have hj := (List.getElem?_eq_some_iff.1 h).1
  rw [bl_len] at hj
  refine ⟨hj, ?_⟩
  unfold bl at h
  rw [List.getElem?_map, List.getElem?_range hj] at h
  simpa using h.symm

theorem bl_at (m : Nat → Int) (n j : Nat) (hj : j < n) : (bl m n)[j]? = some (.int .u8 (m j)) := by
  unfold bl
  rw [List.getElem?_map, List.getElem?_range hj]
  rfl

theorem bl_snoc (m : Nat → Int) (n : Nat) (v : Int) (hv : v = m n) : bl m n ++ [.int .u8 v] = bl m (n + 1) := by
  unfold bl
  rw [List.range_succ, List.map_append, hv]
  rfl

theorem bl_congr {m m' : Nat → Int} {n : Nat} (h : ∀ i, i < n → m i = m' i) : bl m n = bl m' n := by
  unfold bl
  refine List.map_congr_left fun i hi => ?_
  rw [h i (List.mem_range.1 hi)]

theorem Bys.below {w w' : World} {a : Option Addr} {len cap : Nat} {m : Nat → Int} (h : Bys w a len cap m) (hb : Below w.heap.size w w') : Bys w' a len cap m := by
  rcases h with h | h | ⟨b, off, h1, h2, h3, h4, h5⟩
  · exact .inl h
  · exact .inr (.inl h)
  · exact .inr (.inr ⟨b, off, h1, h2, h3, Nat.lt_of_lt_of_le h4 hb.size, fun j hj => (below_cell hb h4).trans (h5 j hj)⟩)

theorem addr_add (b off j : Nat) : (⟨b, off, none⟩ : Addr).add j = ⟨b, off + j, none⟩ := by
  cases j <;> simp [Addr.add]

theorem owns_pos {W : World} {base : Nat} {e : TypeId} {size : Nat} {v : Value} {k : Nat} {xs : List Value} (h : W.ownsRow base e size v k xs) (hk : 0 < k) : ∃ g cap, v = .slice (some ⟨g, 0, none⟩) k cap := by
  rcases h.2 with ⟨_, h1⟩ | ⟨g, cap, cur, h1, _⟩
  · omega
  · exact ⟨g, cap, h1⟩

theorem below_grown {B : Nat} {w0 w w' : World} {v : Value} {n : Nat} {xs : List Value} {e : TypeId} (hb : Below B w0 w) (ho : w.ownsRow B e 1 v n xs) (hB : B ≤ w.heap.size) (hg : w.grownBy w' v.ownBlock) : Below B w0 w' :=
  ⟨hg.os.trans hb.os, hg.tape.trans hb.tape, hg.output.trans hb.output, Nat.le_trans hb.size hg.size, fun k hk => (hg.block k (by omega) (fun e => by have := (ho.lt k e.symm).1; omega)).trans (hb.block k hk)⟩

theorem own_cells {w : World} {B : Nat} {g n C : Nat} {m : Nat → Int} (h : w.ownsRow B 5 1 (.slice (some ⟨g, 0, none⟩) n C) n (bl m n)) : B ≤ g ∧ g < w.heap.size ∧ n ≤ C ∧ C ≤ 9223372036854775807 ∧ ∀ j, j < n → w.cell? ⟨g, j, none⟩ = some (.int .u8 (m j)) := by
  have hl := h.lt g rfl
  refine ⟨hl.1, hl.2, ?_, ?_, fun j hj => ?_⟩
  · rcases h.2 with ⟨h1, _⟩ | ⟨g', cap, cur, h1, _, _, h2, _⟩
    · cases h1
    · cases h1; exact h2
  · rcases h.2 with ⟨h1, _⟩ | ⟨g', cap, cur, h1, _, _, h2, h3, _⟩
    · cases h1
    · cases h1; unfold maxLen at h3; omega
  · have := h.cells (g := g) rfl j _ (bl_at m n j hj)
    rw [addr_add, Nat.zero_add] at this
    exact this

/-- A slice of bytes, whole. -/
def sl22 (x : Value) (lo hi : Option Value) : Sem Value := Instr.sliceAt 39 x lo hi none

theorem sl22_eq (x : Value) (lo hi : Option Value) : Instr.sliceAt 39 x lo hi none = sl22 x lo hi := rfl

end Go.Proofs.YtlidilnakiphiaaDoor.Z

namespace Go.Proofs.YtlidilnakiphiaaDoor.Z

open Go.RowKit

theorem or_nat' (i m y : Nat) (hy : y < 2 ^ i) (h : 2 ^ i * m + y < 18446744073709551616) :
    bits .or .u64 (y : Int) ((2 ^ i * m : Nat) : Int) = ((2 ^ i * m + y : Nat) : Int) := by
  rw [bits_or_u64_nat _ _ (by omega) (by omega), Nat.two_pow_add_eq_or_of_lt hy m, Nat.or_comm]

end Go.Proofs.YtlidilnakiphiaaDoor.Z

namespace Go.Proofs.YtlidilnakiphiaaDoor.Z

open Go.RowKit

set_option linter.unusedVariables false

set_option linter.unusedSimpArgs false

theorem or_zero (z : Int) (h0 : 0 ≤ z) (h1 : z < 18446744073709551616) : bits .or .u64 0 z = z := by
  obtain ⟨z, rfl⟩ := Int.eq_ofNat_of_zero_le h0
  have h := bits_or_u64_nat 0 z (by omega) (by omega)
  rw [Nat.zero_or] at h
  exact h

theorem or_add (k : Nat) (A z P : Int) (hP : P = 2 ^ k) (hA : 0 ≤ A) (hA' : A < P) (hz : 0 ≤ z) (h : A + z * P < 18446744073709551616) : bits .or .u64 A (z * P) = A + z * P := by
  obtain ⟨A, rfl⟩ := Int.eq_ofNat_of_zero_le hA
  obtain ⟨z, rfl⟩ := Int.eq_ofNat_of_zero_le hz
  have ep : ((2 ^ k : Nat) : Int) = (2 : Int) ^ k := by simp
  have e : (z : Int) * P = ((2 ^ k * z : Nat) : Int) := by rw [Int.natCast_mul, ep, hP, Int.mul_comm]
  rw [hP, ← ep] at hA'
  rw [e] at h ⊢
  rw [or_nat' k z A (by omega) (by omega)]
  omega

def num8 (z0 z1 z2 z3 z4 z5 z6 z7 : Int) : Int := z0 + z1 * 256 + z2 * 65536 + z3 * 16777216 + z4 * 4294967296 + z5 * 1099511627776 + z6 * 281474976710656 + z7 * 72057594037927936

theorem ret2 {k l : IntKind} {a b c d : Int} (h1 : a = c) (h2 : b = d) : Ending.returned (.tuple #[.int k a, .int l b]) = .returned (.tuple #[.int k c, .int l d]) := by rw [h1, h2]

set_option maxHeartbeats 1000000 in
theorem read8 (b off cap : Nat) (z0 z1 z2 z3 z4 z5 z6 z7 : Int) (w : World) (c0 : w.cell? ⟨b, off, none⟩ = some (.int .u8 z0)) (p0 : 0 ≤ z0) (q0 : z0 ≤ 255) (c1 : w.cell? ⟨b, off + 1, none⟩ = some (.int .u8 z1)) (p1 : 0 ≤ z1) (q1 : z1 ≤ 255) (c2 : w.cell? ⟨b, off + 2, none⟩ = some (.int .u8 z2)) (p2 : 0 ≤ z2) (q2 : z2 ≤ 255) (c3 : w.cell? ⟨b, off + 3, none⟩ = some (.int .u8 z3)) (p3 : 0 ≤ z3) (q3 : z3 ≤ 255) (c4 : w.cell? ⟨b, off + 4, none⟩ = some (.int .u8 z4)) (p4 : 0 ≤ z4) (q4 : z4 ≤ 255) (c5 : w.cell? ⟨b, off + 5, none⟩ = some (.int .u8 z5)) (p5 : 0 ≤ z5) (q5 : z5 ≤ 255) (c6 : w.cell? ⟨b, off + 6, none⟩ = some (.int .u8 z6)) (p6 : 0 ≤ z6) (q6 : z6 ≤ 255) (c7 : w.cell? ⟨b, off + 7, none⟩ = some (.int .u8 z7)) (p7 : 0 ≤ z7) (q7 : z7 ≤ 255) :
    Calls Tryd.prog 46 #[.slice (some ⟨b, off, none⟩) 8 cap] w fun e w' => e = .returned (.tuple #[.int .u64 (num8 z0 z1 z2 z3 z4 z5 z6 z7), .int .i64 0]) ∧ w' = w := by
  have o0 : bits .or .u64 0 z0 = z0 := or_zero z0 p0 (by omega)
  obtain ⟨A1, e1⟩ : ∃ A, z0 + z1 * 256 = A := ⟨_, rfl⟩
  have o1 : bits .or .u64 z0 (z1 * 256) = A1 := (or_add 8 z0 z1 256 (by decide) (by omega) (by omega) (by omega) (by omega)).trans e1
  obtain ⟨A2, e2⟩ : ∃ A, A1 + z2 * 65536 = A := ⟨_, rfl⟩
  have o2 : bits .or .u64 A1 (z2 * 65536) = A2 := (or_add 16 A1 z2 65536 (by decide) (by omega) (by omega) (by omega) (by omega)).trans e2
  obtain ⟨A3, e3⟩ : ∃ A, A2 + z3 * 16777216 = A := ⟨_, rfl⟩
  have o3 : bits .or .u64 A2 (z3 * 16777216) = A3 := (or_add 24 A2 z3 16777216 (by decide) (by omega) (by omega) (by omega) (by omega)).trans e3
  obtain ⟨A4, e4⟩ : ∃ A, A3 + z4 * 4294967296 = A := ⟨_, rfl⟩
  have o4 : bits .or .u64 A3 (z4 * 4294967296) = A4 := (or_add 32 A3 z4 4294967296 (by decide) (by omega) (by omega) (by omega) (by omega)).trans e4
  obtain ⟨A5, e5⟩ : ∃ A, A4 + z5 * 1099511627776 = A := ⟨_, rfl⟩
  have o5 : bits .or .u64 A4 (z5 * 1099511627776) = A5 := (or_add 40 A4 z5 1099511627776 (by decide) (by omega) (by omega) (by omega) (by omega)).trans e5
  obtain ⟨A6, e6⟩ : ∃ A, A5 + z6 * 281474976710656 = A := ⟨_, rfl⟩
  have o6 : bits .or .u64 A5 (z6 * 281474976710656) = A6 := (or_add 48 A5 z6 281474976710656 (by decide) (by omega) (by omega) (by omega) (by omega)).trans e6
  obtain ⟨A7, e7⟩ : ∃ A, A6 + z7 * 72057594037927936 = A := ⟨_, rfl⟩
  have o7 : bits .or .u64 A6 (z7 * 72057594037927936) = A7 := (or_add 56 A6 z7 72057594037927936 (by decide) (by omega) (by omega) (by omega) (by omega)).trans e7
  have en : A7 = num8 z0 z1 z2 z3 z4 z5 z6 z7 := by unfold num8; omega
  have EN := hid en
  clear en e1 e2 e3 e4 e5 e6 e7
  go_enter Tryd.func46, Tryd.ntmps46
  go_wp2
  go_rounds 9
  go_ret2
  exact ⟨ret2 EN.out rfl, rfl⟩

/-- The number that four bytes from place k on are, the lowest first. -/
def o4 (m : Nat → Int) (k : Nat) : Int := m k + m (k + 1) * 256 + m (k + 2) * 65536 + m (k + 3) * 16777216

def cp22 (ty : TypeId) (x y : Value) : Sem Value := Builtin.copy_ #[39, 39] ty #[x, y]

theorem cp22_eq (ty : TypeId) (x y : Value) : Builtin.copy_ #[39, 39] ty #[x, y] = cp22 ty x y := rfl

attribute [local go_sem ↓] cp22_eq

end Go.Proofs.YtlidilnakiphiaaDoor.Z

namespace Go.Proofs.YtlidilnakiphiaaDoor.Z

open Go.RowKit

set_option linter.unusedVariables false

set_option linter.unusedSimpArgs false

/-- The numbers of a slice, whatever it is. -/
def Nms (k : IntKind) (w : World) (a : Option Addr) (n : Nat) (zs : Nat → Int) : Prop :=
  n = 0 ∨ ∃ b off, a = some ⟨b, off, none⟩ ∧ b < w.heap.size ∧ ∀ j, j < n → w.cell? ⟨b, off + j, none⟩ = some (.int k (zs j))

theorem Nms.below {k : IntKind} {w w' : World} {a : Option Addr} {n : Nat} {zs : Nat → Int} (h : Nms k w a n zs) (hb : Below w.heap.size w w') : Nms k w' a n zs := by
  rcases h with h | ⟨b, off, h1, h2, h3⟩
  · exact .inl h
  · exact .inr ⟨b, off, h1, Nat.lt_of_lt_of_le h2 hb.size, fun j hj => (below_cell hb h2).trans (h3 j hj)⟩

/-- Are they sizes? -/
def okS (z : Int) : Prop := 0 ≤ z ∧ z ≤ 65536

instance (z : Int) : Decidable (okS z) := by unfold okS; infer_instance

end Go.Proofs.YtlidilnakiphiaaDoor.Z

namespace Go.Proofs.YtlidilnakiphiaaDoor.Z

open Go.RowKit

set_option linter.unusedVariables false

set_option linter.unusedSimpArgs false

theorem ownsRow_kept {w w' : World} {base : Nat} {e : TypeId} {v : Value} {n : Nat} {xs : List Value} (h : w.ownsRow base e 1 v n xs) (hk : ∀ (g : Nat) (cur : Array Value), w.heap[g]? = some (.cells cur e (0, 0)) → w'.heap[g]? = w.heap[g]?) : w'.ownsRow base e 1 v n xs := by
  refine ⟨h.1, ?_⟩
  rcases h.2 with h1 | ⟨g, cap, cur, h1, h2, h3, h4⟩
  · exact .inl h1
  · exact .inr ⟨g, cap, cur, h1, h2, (hk g cur h3).trans h3, h4⟩

theorem owns_below {w w' : World} {base : Nat} {e : TypeId} {v : Value} {n : Nat} {xs : List Value} (h : w.ownsRow base e 1 v n xs) (hb : Below w.heap.size w w') : w'.ownsRow base e 1 v n xs :=
  ownsRow_kept h fun g cur hg => hb.block g (Array.getElem?_eq_some_iff.1 hg).1

attribute [local go_sem ↓] sl22_eq

end Go.Proofs.YtlidilnakiphiaaDoor.Z

namespace Go.Proofs.YtlidilnakiphiaaDoor.Z

open Go.RowKit

set_option linter.unusedVariables false

set_option linter.unusedSimpArgs false

/-- None below the one ahead of it, none above L. -/
def ordAt (os : Nat → Int) (L : Int) (i : Nat) : Prop := (if i = 0 then 0 else os (i - 1)) ≤ os i ∧ os i ≤ L

instance (os : Nat → Int) (L : Int) (i : Nat) : Decidable (ordAt os L i) := by unfold ordAt; infer_instance

def sm22 (x : Value) (lo hi mx : Option Value) : Sem Value := Instr.sliceAt 39 x lo hi mx

theorem sm22_eq (x : Value) (lo hi mx : Value) : Instr.sliceAt 39 x (some lo) (some hi) (some mx) = sm22 x (some lo) (some hi) (some mx) := rfl

attribute [local go_sem ↓] sm22_eq

end Go.Proofs.YtlidilnakiphiaaDoor.Z

namespace Go.Proofs.YtlidilnakiphiaaDoor.Z

open Go.RowKit

set_option linter.unusedVariables false

set_option linter.unusedSimpArgs false

end Go.Proofs.YtlidilnakiphiaaDoor.Z

namespace Go.Proofs.YtlidilnakiphiaaDoor.Z

open Go.RowKit

set_option linter.unusedVariables false

set_option linter.unusedSimpArgs false

/-- How many of the first k parts are of any size. -/
def zn (zs : Nat → Int) : Nat → Nat
  | 0 => 0
  | k + 1 => zn zs k + (if zs k = 0 then 1 else 0)

end Go.Proofs.YtlidilnakiphiaaDoor.Z

namespace Go.Proofs.YtlidilnakiphiaaDoor.Z

open Go.RowKit

set_option linter.unusedVariables false

set_option linter.unusedSimpArgs false

end Go.Proofs.YtlidilnakiphiaaDoor.Z

namespace Go.Proofs.YtlidilnakiphiaaDoor.Z

open Go.RowKit

set_option linter.unusedVariables false

set_option linter.unusedSimpArgs false

end Go.Proofs.YtlidilnakiphiaaDoor.Z

namespace Go.Proofs.YtlidilnakiphiaaDoor.Z

open Go.RowKit

set_option linter.unusedVariables false

set_option linter.unusedSimpArgs false

end Go.Proofs.YtlidilnakiphiaaDoor.Z

namespace Go.Proofs.YtlidilnakiphiaaDoor.Z

open Go.RowKit

set_option linter.unusedVariables false

set_option linter.unusedSimpArgs false

/-- The byte at place i, the lowest first. -/
def bt (n : Int) : Nat → Int
  | 0 => n % 256
  | 1 => n / 256 % 256
  | 2 => n / 65536 % 256
  | 3 => n / 16777216 % 256
  | 4 => n / 4294967296 % 256
  | 5 => n / 1099511627776 % 256
  | 6 => n / 281474976710656 % 256
  | _ => n / 72057594037927936 % 256

end Go.Proofs.YtlidilnakiphiaaDoor.Z

namespace Go.Proofs.YtlidilnakiphiaaDoor.Z

open Go.RowKit

set_option linter.unusedVariables false

set_option linter.unusedSimpArgs false

end Go.Proofs.YtlidilnakiphiaaDoor.Z

namespace Go.Proofs.YtlidilnakiphiaaDoor.Z

open Go.RowKit

set_option linter.unusedVariables false

set_option linter.unusedSimpArgs false

end Go.Proofs.YtlidilnakiphiaaDoor.Z

namespace Go.Proofs.YtlidilnakiphiaaDoor.Z

open Go.RowKit

set_option linter.unusedVariables false

set_option linter.unusedSimpArgs false

/-- Two rows of the call's own, apart. -/
def Two (w : World) (B : Nat) (v : Value) (n : Nat) (xs : List Value) (u : Value) (m : Nat) (ys : List Value) : Prop :=
  w.ownsRow B 5 1 v n xs ∧ w.ownsRow B 5 1 u m ys ∧ ∀ k, v.ownBlock = some k → u.ownBlock ≠ some k

theorem Two.below {w w' : World} {B : Nat} {v : Value} {n : Nat} {xs : List Value} {u : Value} {m : Nat} {ys : List Value} (h : Two w B v n xs u m ys) (hb : Below w.heap.size w w') : Two w' B v n xs u m ys :=
  ⟨owns_below h.1 hb, owns_below h.2.1 hb, h.2.2⟩

theorem Two.step {w w' : World} {B : Nat} {v v' : Value} {n n' : Nat} {xs xs' : List Value} {u : Value} {m : Nat} {ys : List Value} (h : Two w B v n xs u m ys) (ho : w'.ownsRow B 5 1 v' n' xs') (hg : w.grownBy w' v.ownBlock) (hl : v'.ownBlock = v.ownBlock ∨ v'.ownBlock = some w.heap.size) : Two w' B v' n' xs' u m ys := by
  obtain ⟨h1, h2, h3⟩ := h
  refine ⟨ho, ?_, fun k hk hu => ?_⟩
  · refine ⟨h2.1, ?_⟩
    rcases h2.2 with h4 | ⟨g, cap, cur, h4, h5, h6, h7⟩
    · exact .inl h4
    · refine .inr ⟨g, cap, cur, h4, h5, ?_, h7⟩
      rw [← h6]
      refine hg.block g (Array.getElem?_eq_some_iff.1 h6).1 fun e => ?_
      exact h3 g e.symm (by rw [h4]; rfl)
  · rcases hl with hl | hl
    · exact h3 k (hl ▸ hk) hu
    · have := (h2.lt k hu).2
      rw [hl] at hk
      cases hk
      omega

end Go.Proofs.YtlidilnakiphiaaDoor.Z

namespace Go.Proofs.YtlidilnakiphiaaDoor.Z

open Go.RowKit

set_option linter.unusedVariables false

set_option linter.unusedSimpArgs false

end Go.Proofs.YtlidilnakiphiaaDoor.Z

namespace Go.Proofs.YtlidilnakiphiaaDoor.Z

open Go.RowKit

set_option linter.unusedVariables false

set_option linter.unusedSimpArgs false

end Go.Proofs.YtlidilnakiphiaaDoor.Z

namespace Go.Proofs.YtlidilnakiphiaaDoor.Z

open Go.RowKit

set_option linter.unusedVariables false

set_option linter.unusedSimpArgs false

end Go.Proofs.YtlidilnakiphiaaDoor.Z

namespace Go.Proofs.YtlidilnakiphiaaDoor.Z

open Go.RowKit

set_option linter.unusedVariables false

set_option linter.unusedSimpArgs false

/-- Do the offsets rise, from the first on, none above n? -/
def risAt (os : Nat → Int) (first n : Int) (i : Nat) : Prop := (if i = 0 then os 0 = first else os (i - 1) ≤ os i) ∧ os i ≤ n

instance (os : Nat → Int) (first n : Int) (i : Nat) : Decidable (risAt os first n i) := by unfold risAt; infer_instance

end Go.Proofs.YtlidilnakiphiaaDoor.Z

namespace Go.Proofs.YtlidilnakiphiaaDoor.Z

open Go.RowKit

set_option linter.unusedVariables false

set_option linter.unusedSimpArgs false

end Go.Proofs.YtlidilnakiphiaaDoor.Z

namespace Go.Proofs.YtlidilnakiphiaaDoor

open Go.RowKit

set_option linter.unusedVariables false

set_option linter.unusedSimpArgs false

theorem nmB_bd (n : Int) (j : Nat) : 0 ≤ nmB n j ∧ nmB n j < 256 := by
  unfold nmB
  exact ⟨Int.emod_nonneg _ (by decide), Int.emod_lt_of_pos _ (by decide)⟩

/-- Eight bytes in an array, kept whole. -/
def sv8 (a : Addr) (v : Value) : Sem Unit := storeVar 77 a v

theorem sv8_eq (a : Addr) (v : Value) : storeVar 77 a v = sv8 a v := rfl

theorem sv8_newv (W : World) (o c : Nat → Int) : (sv8 ⟨W.heap.size, 0, none⟩ (.agg (vs .u8 8 c))).run Tryd.prog (W.alloc (.cells (vs .u8 8 o) 77)) = .ok () (W.alloc (.cells (vs .u8 8 c) 77)) :=
  run_storeVar_new W 77 _ _ (by rw [vs_size]; kernel_rfl) (by rw [vs_size, vs_size]) (vs_one _ _ _)

theorem zero_8 : ∀ w : World, (zeroValue 77).run Tryd.prog w = .ok (.agg (vs .u8 8 fun _ => 0)) w := (zero_of_info (n := 8) (by kernel_rfl)).1

end Go.Proofs.YtlidilnakiphiaaDoor

namespace Go.Proofs.YtlidilnakiphiaaDoor

open Go.RowKit

set_option linter.unusedVariables false

set_option linter.unusedSimpArgs false

attribute [local go_sem ↓] sv24_eq lv24_eq ix22_eq slr_eq bd27_eq bs22_eq sv8_eq

/-- The root of bytes. -/
def cks (len : Nat) : Nat := (len + 31) / 32

def bR (f : Nat → Int) (len : Nat) : Nat → Int := treeV (pk f len) (cks len) (cks len : Nat)

end Go.Proofs.YtlidilnakiphiaaDoor

namespace Go.Proofs.YtlidilnakiphiaaDoor

open Go.RowKit

set_option linter.unusedVariables false

set_option linter.unusedSimpArgs false

end Go.Proofs.YtlidilnakiphiaaDoor

namespace Go.Proofs.YtlidilnakiphiaaDoor

open Go.RowKit

set_option linter.unusedVariables false

set_option linter.unusedSimpArgs false

attribute [local go_sem ↓] sv24_eq lv24_eq ix22_eq slr_eq bd27_eq bs22_eq sv8_eq

end Go.Proofs.YtlidilnakiphiaaDoor

namespace Go.Proofs.YtlidilnakiphiaaDoor

open Go.RowKit

set_option linter.unusedVariables false

set_option linter.unusedSimpArgs false

/-- A field in memory. -/
inductive Seg where
  | by (n : Nat) (f : Nat → Int)
  | nu (e : Int)
  | bo (b : Bool)
  | sl (a : Option Addr) (n c : Nat)

def Seg.len : Seg → Nat
  | .by n _ => n
  | .nu _ => 1
  | .bo _ => 1
  | .sl _ _ _ => 1

def Seg.get : Seg → Nat → Value
  | .by _ f, j => .int .u8 (f j)
  | .nu e, _ => .int .u64 e
  | .bo b, _ => .bool b
  | .sl a n c, _ => .slice a n c

def celL : List Seg → List Value
  | [] => []
  | s :: r => (List.range s.len).map s.get ++ celL r

def cel (l : List Seg) : Array Value := (celL l).toArray

/-- Where a field begins. -/
def sof : List Seg → Nat → Nat
  | [], _ => 0
  | _ :: _, 0 => 0
  | s :: r, i + 1 => s.len + sof r i

def slen : List Seg → Nat
  | [] => 0
  | s :: r => s.len + slen r

theorem celL_len : ∀ l, (celL l).length = slen l
  | [] => rfl
  | s :: r => by
    show ((List.range s.len).map s.get ++ celL r).length = s.len + slen r
    rw [List.length_append, List.length_map, List.length_range, celL_len r]

theorem cel_size (l : List Seg) : (cel l).size = slen l := by
  unfold cel
  rw [List.size_toArray, celL_len]

theorem celL_at : ∀ (l : List Seg) (i j : Nat) (s : Seg), l[i]? = some s → j < s.len → (celL l)[sof l i + j]? = some (s.get j)
  | [], i, j, s, h, _ => by simp at h
  | x :: r, 0, j, s, h, hj => by
    have e : x = s := by simpa using h
    subst e
    show ((List.range x.len).map x.get ++ celL r)[0 + j]? = _
    rw [Nat.zero_add, List.getElem?_append_left (by simpa using hj), List.getElem?_map, List.getElem?_range hj]
    rfl
  | x :: r, i + 1, j, s, h, hj => by
    have h' : r[i]? = some s := by simpa using h
    show ((List.range x.len).map x.get ++ celL r)[x.len + sof r i + j]? = _
    rw [List.getElem?_append_right (by simp; omega), List.length_map, List.length_range, show x.len + sof r i + j - x.len = sof r i + j by omega]
    exact celL_at r i j s h' hj

theorem cel_at (l : List Seg) (i j : Nat) (s : Seg) (h : l[i]? = some s) (hj : j < s.len) : (cel l)[sof l i + j]? = some (s.get j) := by
  unfold cel
  rw [List.getElem?_toArray]
  exact celL_at l i j s h hj

theorem celL_one : ∀ l, ∀ u ∈ celL l, u.oneCell' = true
  | [], u, h => by cases h
  | s :: r, u, h => by
    have h' : u ∈ (List.range s.len).map s.get ++ celL r := h
    rw [List.mem_append] at h'
    rcases h' with h' | h'
    · obtain ⟨j, _, rfl⟩ := List.mem_map.1 h'
      cases s <;> rfl
    · exact celL_one r u h'

theorem cel_one (l : List Seg) : (cel l).all (·.oneCell') = true := by
  rw [Array.all_eq_true']
  intro u hu
  exact celL_one l u (by simpa [cel] using hu)

/-- The bytes, a number, a bool of a field in memory. -/
theorem seg_bys {w : World} {g : Nat} {t : TypeId} {l : List Seg} (h : w.heap[g]? = some (.cells (cel l) t)) (i n : Nat) (f : Nat → Int) (hi : l[i]? = some (.by n f)) (o : Nat) (ho : sof l i = o) (hn : n ≤ 9223372036854775807) : Bys w (some ⟨g, o, none⟩) n n f :=
  .inr (.inr ⟨g, o, rfl, Nat.le_refl _, hn, (Array.getElem?_eq_some_iff.1 h).1, fun j hj => by
    rw [row_cell h, ← ho]
    exact cel_at l i j _ hi hj⟩)

theorem seg_nu {w : World} {g : Nat} {t : TypeId} {l : List Seg} (h : w.heap[g]? = some (.cells (cel l) t)) (i : Nat) (e : Int) (hi : l[i]? = some (.nu e)) (o : Nat) (ho : sof l i = o) : w.cell? ⟨g, o, none⟩ = some (.int .u64 e) := by
  rw [row_cell h, ← ho]
  exact cel_at l i 0 _ hi (by show 0 < 1; omega)

theorem seg_sl {w : World} {g : Nat} {t : TypeId} {l : List Seg} (h : w.heap[g]? = some (.cells (cel l) t)) (i : Nat) (a : Option Addr) (n c : Nat) (hi : l[i]? = some (.sl a n c)) (o : Nat) (ho : sof l i = o) : w.cell? ⟨g, o, none⟩ = some (.slice a n c) := by
  rw [row_cell h, ← ho]
  exact cel_at l i 0 _ hi (by show 0 < 1; omega)

end Go.Proofs.YtlidilnakiphiaaDoor

namespace Go.Proofs.YtlidilnakiphiaaDoor

open Go.RowKit

set_option linter.unusedVariables false

set_option linter.unusedSimpArgs false

/-- A value of the type Fork: as it lies in memory, its bytes. -/
structure VFork where
  f0 : Nat → Int
  f1 : Nat → Int
  f2 : Int

def sFork (x : VFork) : List Seg := [.by 4 x.f0, .by 4 x.f1, .nu x.f2]

def OkFork (x : VFork) : Prop := (∀ j, j < 4 → 0 ≤ x.f0 j ∧ x.f0 j < 256) ∧ (∀ j, j < 4 → 0 ≤ x.f1 j ∧ x.f1 j < 256) ∧ (0 ≤ x.f2 ∧ x.f2 < 18446744073709551616)

/-- A value of the type Checkpoint: as it lies in memory, its bytes. -/
structure VCheckpoint where
  f0 : Int
  f1 : Nat → Int

def sCheckpoint (x : VCheckpoint) : List Seg := [.nu x.f0, .by 32 x.f1]

def OkCheckpoint (x : VCheckpoint) : Prop := (0 ≤ x.f0 ∧ x.f0 < 18446744073709551616) ∧ (∀ j, j < 32 → 0 ≤ x.f1 j ∧ x.f1 j < 256)

/-- A value of the type Validator: as it lies in memory, its bytes. -/
structure VValidator where
  f0 : Nat → Int
  f1 : Nat → Int
  f2 : Int
  f3 : Bool
  f4 : Int
  f5 : Int
  f6 : Int
  f7 : Int

def sValidator (x : VValidator) : List Seg := [.by 48 x.f0, .by 32 x.f1, .nu x.f2, .bo x.f3, .nu x.f4, .nu x.f5, .nu x.f6, .nu x.f7]

def OkValidator (x : VValidator) : Prop := (∀ j, j < 48 → 0 ≤ x.f0 j ∧ x.f0 j < 256) ∧ (∀ j, j < 32 → 0 ≤ x.f1 j ∧ x.f1 j < 256) ∧ (0 ≤ x.f2 ∧ x.f2 < 18446744073709551616) ∧ True ∧ (0 ≤ x.f4 ∧ x.f4 < 18446744073709551616) ∧ (0 ≤ x.f5 ∧ x.f5 < 18446744073709551616) ∧ (0 ≤ x.f6 ∧ x.f6 < 18446744073709551616) ∧ (0 ≤ x.f7 ∧ x.f7 < 18446744073709551616)

/-- A value of the type Eth1: as it lies in memory, its bytes. -/
structure VEth1 where
  f0 : Nat → Int
  f1 : Int
  f2 : Nat → Int

def sEth1 (x : VEth1) : List Seg := [.by 32 x.f0, .nu x.f1, .by 32 x.f2]

def OkEth1 (x : VEth1) : Prop := (∀ j, j < 32 → 0 ≤ x.f0 j ∧ x.f0 j < 256) ∧ (0 ≤ x.f1 ∧ x.f1 < 18446744073709551616) ∧ (∀ j, j < 32 → 0 ≤ x.f2 j ∧ x.f2 j < 256)

/-- A value of the type Header: as it lies in memory, its bytes. -/
structure VHeader where
  f0 : Int
  f1 : Int
  f2 : Nat → Int
  f3 : Nat → Int
  f4 : Nat → Int

def sHeader (x : VHeader) : List Seg := [.nu x.f0, .nu x.f1, .by 32 x.f2, .by 32 x.f3, .by 32 x.f4]

def OkHeader (x : VHeader) : Prop := (0 ≤ x.f0 ∧ x.f0 < 18446744073709551616) ∧ (0 ≤ x.f1 ∧ x.f1 < 18446744073709551616) ∧ (∀ j, j < 32 → 0 ≤ x.f2 j ∧ x.f2 j < 256) ∧ (∀ j, j < 32 → 0 ≤ x.f3 j ∧ x.f3 j < 256) ∧ (∀ j, j < 32 → 0 ≤ x.f4 j ∧ x.f4 j < 256)

end Go.Proofs.YtlidilnakiphiaaDoor

namespace Go.Proofs.YtlidilnakiphiaaDoor

open Go.RowKit

set_option linter.unusedVariables false

set_option linter.unusedSimpArgs false

def lvFork (a : Addr) : Sem Value := loadVar 28 a

theorem lvFork_eq (a : Addr) : loadVar 28 a = lvFork a := rfl

def lvCheckpoint (a : Addr) : Sem Value := loadVar 42 a

theorem lvCheckpoint_eq (a : Addr) : loadVar 42 a = lvCheckpoint a := rfl

def lvValidator (a : Addr) : Sem Value := loadVar 60 a

theorem lvValidator_eq (a : Addr) : loadVar 60 a = lvValidator a := rfl

def lvEth1 (a : Addr) : Sem Value := loadVar 34 a

theorem lvEth1_eq (a : Addr) : loadVar 34 a = lvEth1 a := rfl

def lvHeader (a : Addr) : Sem Value := loadVar 30 a

theorem lvHeader_eq (a : Addr) : loadVar 30 a = lvHeader a := rfl

end Go.Proofs.YtlidilnakiphiaaDoor

namespace Go.Proofs.YtlidilnakiphiaaDoor

open Go.RowKit

set_option linter.unusedVariables false

set_option linter.unusedSimpArgs false

attribute [local go_sem ↓] sv24_eq lv24_eq ix22_eq slr_eq bd27_eq bs22_eq sv8_eq lvCheckpoint_eq lvHeader_eq

end Go.Proofs.YtlidilnakiphiaaDoor

namespace Go.Proofs.YtlidilnakiphiaaDoor

open Go.RowKit

set_option linter.unusedVariables false

set_option linter.unusedSimpArgs false

end Go.Proofs.YtlidilnakiphiaaDoor

namespace Go.Proofs.YtlidilnakiphiaaDoor

open Go.RowKit

set_option linter.unusedVariables false

set_option linter.unusedSimpArgs false

/-- The number that eight bytes are. -/
def rdN (f : Nat → Int) : Int := Z.num8 (f 0) (f 1) (f 2) (f 3) (f 4) (f 5) (f 6) (f 7)

end Go.Proofs.YtlidilnakiphiaaDoor

namespace Go.Proofs.YtlidilnakiphiaaDoor

open Go.RowKit

set_option linter.unusedVariables false

set_option linter.unusedSimpArgs false

attribute [local go_sem ↓] sv24_eq lv24_eq ix22_eq slr_eq bd27_eq bs22_eq sv8_eq

end Go.Proofs.YtlidilnakiphiaaDoor

namespace Go.Proofs.YtlidilnakiphiaaDoor

open Go.RowKit

set_option linter.unusedVariables false

set_option linter.unusedSimpArgs false

/-- The value of nothing but zeros; the value that bytes are. -/
def oFork : VFork := ⟨fun _ => 0, fun _ => 0, 0⟩

def svFork (a : Addr) (v : Value) : Sem Unit := storeVar 28 a v

theorem svFork_eq (a : Addr) (v : Value) : storeVar 28 a v = svFork a v := rfl

/-- The value of nothing but zeros; the value that bytes are. -/
def oCheckpoint : VCheckpoint := ⟨0, fun _ => 0⟩

def svCheckpoint (a : Addr) (v : Value) : Sem Unit := storeVar 42 a v

theorem svCheckpoint_eq (a : Addr) (v : Value) : storeVar 42 a v = svCheckpoint a v := rfl

/-- The value of nothing but zeros; the value that bytes are. -/
def oValidator : VValidator := ⟨fun _ => 0, fun _ => 0, 0, false, 0, 0, 0, 0⟩

def svValidator (a : Addr) (v : Value) : Sem Unit := storeVar 60 a v

theorem svValidator_eq (a : Addr) (v : Value) : storeVar 60 a v = svValidator a v := rfl

theorem zeroValidator (W : World) : (zeroValue 60).run Tryd.prog W = .ok (.agg (cel (sValidator oValidator))) W := by kernel_rfl

theorem slValidator (x : VValidator) : slen (sValidator x) = 86 := rfl

theorem svValidator_newv (W : World) (o c : VValidator) : (svValidator ⟨W.heap.size, 0, none⟩ (.agg (cel (sValidator c)))).run Tryd.prog (W.alloc (.cells (cel (sValidator o)) 60)) = .ok () (W.alloc (.cells (cel (sValidator c)) 60)) :=
  run_storeVar_new W 60 _ _ (by rw [cel_size, slValidator]; kernel_rfl) (by rw [cel_size, cel_size, slValidator, slValidator]) (cel_one _)

/-- The value of nothing but zeros; the value that bytes are. -/
def oEth1 : VEth1 := ⟨fun _ => 0, 0, fun _ => 0⟩

def svEth1 (a : Addr) (v : Value) : Sem Unit := storeVar 34 a v

theorem svEth1_eq (a : Addr) (v : Value) : storeVar 34 a v = svEth1 a v := rfl

/-- The value of nothing but zeros; the value that bytes are. -/
def oHeader : VHeader := ⟨0, 0, fun _ => 0, fun _ => 0, fun _ => 0⟩

def svHeader (a : Addr) (v : Value) : Sem Unit := storeVar 30 a v

theorem svHeader_eq (a : Addr) (v : Value) : storeVar 30 a v = svHeader a v := rfl

end Go.Proofs.YtlidilnakiphiaaDoor

namespace Go.Proofs.YtlidilnakiphiaaDoor

open Go.RowKit

set_option linter.unusedVariables false

set_option linter.unusedSimpArgs false

attribute [local go_sem ↓] sv24_eq lv24_eq ix22_eq slr_eq bd27_eq bs22_eq

end Go.Proofs.YtlidilnakiphiaaDoor

namespace Go.Proofs.YtlidilnakiphiaaDoor

open Go.RowKit

set_option linter.unusedVariables false

set_option linter.unusedSimpArgs false

attribute [local go_sem ↓] sv24_eq lv24_eq ix22_eq slr_eq bd27_eq bs22_eq

attribute [local go_sem ↓] sv8_eq

end Go.Proofs.YtlidilnakiphiaaDoor

namespace Go.Proofs.YtlidilnakiphiaaDoor

open Go.RowKit

set_option linter.unusedVariables false

set_option linter.unusedSimpArgs false

end Go.Proofs.YtlidilnakiphiaaDoor

namespace Go.Proofs.YtlidilnakiphiaaDoor

open Go.RowKit

set_option linter.unusedVariables false

set_option linter.unusedSimpArgs false

attribute [local go_sem ↓] sv24_eq lv24_eq ix22_eq slr_eq bd27_eq bs22_eq lvCheckpoint_eq

end Go.Proofs.YtlidilnakiphiaaDoor

namespace Go.Proofs.YtlidilnakiphiaaDoor

open Go.RowKit

set_option linter.unusedVariables false

set_option linter.unusedSimpArgs false

end Go.Proofs.YtlidilnakiphiaaDoor

namespace Go.Proofs.YtlidilnakiphiaaDoor

open Go.RowKit

set_option linter.unusedVariables false

set_option linter.unusedSimpArgs false

namespace Z

end Z

end Go.Proofs.YtlidilnakiphiaaDoor

namespace Go.Proofs.YtlidilnakiphiaaDoor

open Go.RowKit

set_option linter.unusedVariables false

set_option linter.unusedSimpArgs false

end Go.Proofs.YtlidilnakiphiaaDoor

namespace Go.Proofs.YtlidilnakiphiaaDoor

open Go.RowKit

set_option linter.unusedVariables false

set_option linter.unusedSimpArgs false

end Go.Proofs.YtlidilnakiphiaaDoor

namespace Go.Proofs.YtlidilnakiphiaaDoor

open Go.RowKit

set_option linter.unusedVariables false

set_option linter.unusedSimpArgs false

theorem lst_by {H : Type} {enc : TypeId × Value → H} {P : Program} {w : World} {b0 fuel : Nat} {sp : Nat → Bool} {held : Bool} {t e : TypeId} {n : Nat} {cs : List Value} {x : DataW H × List MemPlace}
    (ht : P.underlying t = some (.array n e)) (he : P.underlying e = some (.int .u8)) (hce : P.cellsOf e = 1) (hl : cs.length = n) (h : DataW.trod enc P w b0 sp held fuel t cs = some x) :
    ∃ f : Nat → Int, cs = (List.range n).map (fun j => Value.int .u8 (f j)) ∧ ∀ j, j < n → 0 ≤ f j ∧ f j < 256 := by
  obtain ⟨xs, m, rfl, _, _, hxl, hat⟩ := DataW.trod_array ht h
  have hcell : ∀ i, i < n → ∃ z, cs[i]? = some (.int .u8 z) ∧ (Lit.int .u8 z).wf = true := by
    intro i hi
    have ha := hat i hi
    rw [List.getElem?_eq_getElem (by omega)] at ha
    obtain ⟨z, hc, _, hwf⟩ := DataW.trod_int he ha
    refine ⟨z, ?_, hwf⟩
    have := congrArg (·[0]?) hc
    simpa [hce, List.getElem?_take, List.getElem?_drop] using this
  refine ⟨byteOf cs.toArray, ?_, fun j hj => ?_⟩
  · apply List.ext_getElem?
    intro i
    rw [List.getElem?_map]
    by_cases hi : i < n
    · obtain ⟨z, hz, _⟩ := hcell i hi
      rw [List.getElem?_range hi, hz]
      show some _ = some (Value.int .u8 (byteOf cs.toArray i))
      unfold byteOf
      rw [List.getElem?_toArray, hz]
    · rw [List.getElem?_eq_none (by omega), List.getElem?_eq_none (by simpa using hi)]
      rfl
  · obtain ⟨z, hz, hwf⟩ := hcell j hj
    have := bounds_u8 hwf
    unfold byteOf
    rw [List.getElem?_toArray, hz]
    show 0 ≤ z ∧ z < 256
    omega

theorem cut_list (l : List Value) (o k : Nat) : l.drop o = (l.drop o).take k ++ l.drop (o + k) := by
  have := (List.take_append_drop k (l.drop o)).symm
  rw [List.drop_drop] at this
  exact this

theorem open_str {H : Type} {enc : TypeId × Value → H} {P : Program} {W w : World} {r : Reach} {base b0 : Nat} {sp : Nat → Bool} {held : Bool} {t : TypeId} {fs : Array Field} {v : Value} {d : DataW H} {p : List MemPlace}
    (ht : P.underlying t = some (.struct fs)) (hv : Value.okWide P W r base t v) (h : DataW.Trod enc P w b0 sp held t v d p) :
    ∃ cs : Array Value, v = .agg cs ∧ cs.size = P.cellsOf t ∧ ∃ (xs : List (DataW H × List MemPlace)) (n : Nat), xs.length = fs.size ∧ ∀ (i : Nat) (f : Field), fs[i]? = some f → DataW.trod enc P w b0 sp held n f.type ((cs.toList.drop f.offset).take (P.cellsOf f.type)) = xs[i]? := by
  unfold Value.okWide at hv
  rw [ht] at hv
  obtain ⟨cs, rfl, hs, _⟩ := hv
  obtain ⟨fuel, hf⟩ := h
  obtain ⟨xs, n, _, _, hl, hxl, hat⟩ := DataW.trod_struct ht hf
  exact ⟨cs, rfl, hs, xs, n, hxl, hat⟩

end Go.Proofs.YtlidilnakiphiaaDoor

namespace Go.Proofs.YtlidilnakiphiaaDoor

open Go.RowKit

set_option linter.unusedVariables false

set_option linter.unusedSimpArgs false

end Go.Proofs.YtlidilnakiphiaaDoor

namespace Go.Proofs.YtlidilnakiphiaaDoor

open Go.RowKit

set_option linter.unusedVariables false

set_option linter.unusedSimpArgs false

end Go.Proofs.YtlidilnakiphiaaDoor
