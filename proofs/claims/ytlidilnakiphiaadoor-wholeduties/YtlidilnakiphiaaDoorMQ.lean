/-
  Trees of hashes, as functions: zero roots, the nodes of a tree, the depth of a limit.
  Roots in memory: rows of bytes read and written thirty-two at a time; the block of a row of a tree.
  What a row tells at a place.
  What a row tells at any place; slices of roots; rows of the call's own.
  What rise makes of a row.
  What slices.Clone, lowest, isLimit and depthOf answer.
  What lowest makes; what Zero and Tree answer.
  What Tree answers.
  What Pack makes of bytes.
  What Mix and Holds answer.
  The fixed answers that every statement of layer 5 asks first are right.
  What MerkleMixes answers.
-/
import Derived.Test.YtlidilnakiphiaaDoorHaE
import Derived.Lib.BitFns
import Derived.Deep.RegionHeld3
import Derived.Laws.AppendOwnNone
import Derived.Laws.MakeOwn
namespace Go.Proofs.YtlidilnakiphiaaDoor

open Go.RowKit

set_option linter.unusedVariables false

set_option linter.unusedSimpArgs false

/-- The hash of two roots. -/
def tw (a b : Nat → Int) : Nat → Int := shaV KW HW (cat a b) 64

/-- The zero roots. -/
def zr : Nat → Nat → Int
  | 0 => fun _ => 0
  | n + 1 => tw (zr n) (zr n)

/-- The root number i of a flat row. -/
def rt32 (f : Nat → Int) (i : Nat) : Nat → Int := fun j => f (32 * i + j)

/-- The node number i of the level d of a tree over the first len roots of f. -/
def nd (f : Nat → Int) (len : Nat) : Nat → Nat → Nat → Int
  | 0, i => if i < len then rt32 f i else fun _ => 0
  | d + 1, i => tw (nd f len d (2 * i)) (nd f len d (2 * i + 1))

/-- How many nodes of a level stand over roots. -/
def up (len : Nat) : Nat → Nat
  | 0 => len
  | d + 1 => (up len d + 1) / 2

/-- The depth of a limit. -/
def dpt (n : Nat) : Nat := if n = 0 then 0 else Lib.bitLen (n - 1)

end Go.Proofs.YtlidilnakiphiaaDoor

namespace Go.Proofs.YtlidilnakiphiaaDoor

open Go.RowKit

set_option linter.unusedVariables false

set_option linter.unusedSimpArgs false

/-- An element's address, whole. -/
def ix22 (x i : Value) : Sem Value := Instr.indexAt 32 x i

theorem ix22_eq (x i : Value) : Instr.indexAt 32 x i = ix22 x i := rfl

theorem size_root (w : World) : (sizeOf 24).run Tryd.prog w = .ok 32 w := by
  have hi : (Tryd.prog.info? 24).map (·.size) = some 32 := by kernel_rfl
  cases hq : Tryd.prog.info? 24 with
  | none => simp [hq] at hi
  | some i => simp [hq] at hi; simp [sizeOf, typeInfo, hq, hi]

theorem ix22_run (w : World) (b off len cap i : Nat) (h : i < len) : (ix22 (.slice (some ⟨b, off, none⟩) len cap) (.int .i64 i)).run Tryd.prog w = .ok (.pointer (some ⟨b, off + 32 * i, none⟩)) w := by
  unfold ix22 Instr.indexAt
  have h1 : (0 : Int) ≤ (i : Int) ∧ (i : Int) < (len : Int) := by omega
  simp only [asIntOf, Sem.run_bind, Sem.run_pure, Result.andThen_ok, run_underlying Tryd.underlying32, if_pos h1, size_root, Addr.add_mid, Int.toNat_natCast]
  rw [Nat.mul_comm]

theorem lv24_mid {w : World} {b o : Nat} {c : Nat → Int} (h : ∀ j, j < 32 → w.cell? ⟨b, o + j, none⟩ = some (.int .u8 (c j))) : (lv24 ⟨b, o, none⟩).run Tryd.prog w = .ok (.agg (vs .u8 32 c)) w := by
  have hr : w.rangeAt b o ((List.range 32).map fun i => Value.int .u8 (c i)) := by
    intro j v hj
    have hlt : j < 32 := by
      have := (List.getElem?_eq_some_iff.1 hj).1
      simpa using this
    rw [h j hlt]
    simp [hlt] at hj
    rw [hj]
  exact loadAt_var (run_loadAt_mid w b o 24 _ _ hr Tryd.underlying24 rfl (by rw [List.length_map, List.length_range]; kernel_rfl))

/-- Values laid into an array from a place on. -/
def putL (C : Array Value) : Nat → List Value → Array Value
  | _, [] => C
  | o, v :: r => putL (C.setIfInBounds o v) (o + 1) r

theorem putL_get (l : List Value) : ∀ (C : Array Value) (o j : Nat), o + l.length ≤ C.size → (putL C o l)[j]? = if o ≤ j ∧ j < o + l.length then l[j - o]? else C[j]? := by
  induction l with
  | nil => intro C o j h; rw [if_neg (by simp)]; rfl
  | cons v r ih =>
    intro C o j h
    rw [List.length_cons] at h
    show (putL _ _ r)[j]? = _
    rw [ih _ _ _ (by simp; omega), List.length_cons]
    by_cases h1 : o + 1 ≤ j ∧ j < o + 1 + r.length
    · rw [if_pos h1, if_pos (by omega), show j - o = (j - (o + 1)) + 1 by omega, List.getElem?_cons_succ]
    · rw [if_neg h1, Array.getElem?_setIfInBounds]
      by_cases h2 : o = j
      · subst h2
        rw [if_pos rfl, if_pos (by omega), if_pos (by omega), Nat.sub_self]
        rfl
      · rw [if_neg h2, if_neg (by omega)]

theorem setCells_row {b : Nat} {t : TypeId} (l : List Value) : ∀ {w : World} {C : Array Value} (o : Nat), w.heap[b]? = some (.cells C t) → (w.setCells b o l).heap[b]? = some (.cells (putL C o l) t) := by
  induction l with
  | nil => intro w C o h; exact h
  | cons v r ih => intro w C o h; exact ih (o + 1) (row_set h o v)

theorem there_row {w : World} {b : Nat} {C : Array Value} {t : TypeId} (h : w.heap[b]? = some (.cells C t)) (o n : Nat) (hn : o + n ≤ C.size) : w.there b o n := by
  intro j hj
  refine ⟨?_, row_frozen h _⟩
  rw [row_cell h, Array.getElem?_eq_getElem (by omega)]
  rfl

/-- Roots in a row, whatever slice it is. -/
def Rts (w : World) (a : Option Addr) (len cap : Nat) (f : Nat → Int) : Prop :=
  (a = none ∧ len = 0 ∧ cap = 0) ∨ (∃ x, a = some x ∧ len = 0) ∨ ∃ b off, a = some ⟨b, off, none⟩ ∧ len ≤ cap ∧ b < w.heap.size ∧ ∀ j, j < 32 * len → w.cell? ⟨b, off + j, none⟩ = some (.int .u8 (f j))

theorem Rts.below {w w' : World} {a : Option Addr} {len cap : Nat} {f : Nat → Int} (h : Rts w a len cap f) (hb : Below w.heap.size w w') : Rts w' a len cap f := by
  rcases h with h | h | ⟨b, off, h1, h2, h3, h4⟩
  · exact .inl h
  · exact .inr (.inl h)
  · exact .inr (.inr ⟨b, off, h1, h2, Nat.lt_of_lt_of_le h3 hb.size, fun j hj => (below_cell hb h3).trans (h4 j hj)⟩)

/-- A root of a row: its address, and what lies there. -/
theorem Rts.at {w : World} {a : Option Addr} {len cap : Nat} {f : Nat → Int} (h : Rts w a len cap f) (i : Nat) (hi : i < len) :
    ∃ b o, b < w.heap.size ∧ (∀ W : World, (ix22 (.slice a len cap) (.int .i64 i)).run Tryd.prog W = .ok (.pointer (some ⟨b, o, none⟩)) W) ∧ ∀ j, j < 32 → w.cell? ⟨b, o + j, none⟩ = some (.int .u8 (rt32 f i j)) := by
  rcases h with ⟨_, h, _⟩ | ⟨_, _, h⟩ | ⟨b, off, rfl, h2, h3, h4⟩
  · omega
  · omega
  · exact ⟨b, off + 32 * i, h3, fun W => ix22_run W b off len cap i hi, fun j hj => by rw [Nat.add_assoc]; exact h4 _ (by omega)⟩

end Go.Proofs.YtlidilnakiphiaaDoor

namespace Go.Proofs.YtlidilnakiphiaaDoor

open Go.RowKit

set_option linter.unusedVariables false

set_option linter.unusedSimpArgs false

attribute [local go_sem ↓] sv24_eq lv24_eq ix22_eq

/-- The two tables of package sha. -/
def Sh (w : World) : Prop := Tab w 0 8 HW ∧ Tab w 1 64 KW

theorem Sh.below {w w' : World} (h : Sh w) (hb : Below w.heap.size w w') : Sh w' := ⟨h.1.below hb, h.2.below hb⟩

theorem Sh.kept {w w' : World} {g : Nat} (h : Sh w) (hb : Kept g w w') (h0 : 0 ≠ g) (h1 : 1 ≠ g) : Sh w' := ⟨hb.tab h.1 h0, hb.tab h.2 h1⟩

theorem Kept.setNew {g k : Nat} {a b : World} (h : Kept g a b) (hk : a.heap.size ≤ k) (c : Array Value) : Kept g a (b.setRow k c) :=
  ⟨h.os, h.tape, h.output, by have := h.size; simpa using this, fun i hi hn => (setRow_other b k i c (by omega)).trans (h.block i hi hn)⟩

end Go.Proofs.YtlidilnakiphiaaDoor

namespace Go.Proofs.YtlidilnakiphiaaDoor

open Go.RowKit

set_option linter.unusedVariables false

set_option linter.unusedSimpArgs false

attribute [local go_sem ↓] sv24_eq lv24_eq ix22_eq

/-- Slices of roots, whole. -/
def slr (x : Value) (lo hi : Option Value) : Sem Value := Instr.sliceAt 32 x lo hi none

theorem slr_eq (x : Value) (lo hi : Option Value) : Instr.sliceAt 32 x lo hi none = slr x lo hi := rfl

def ofs (a : Option Addr) (cap lo : Nat) : Option Addr := if cap = lo then a else a.map (·.add (lo * 32))

theorem Rts.part {w : World} {a : Option Addr} {len cap : Nat} {f : Nat → Int} (h : Rts w a len cap f) (lo hi : Nat) (h1 : lo ≤ hi) (h2 : hi ≤ len) :
    Rts w (ofs a cap lo) (hi - lo) (cap - lo) (fun q => f (32 * lo + q)) := by
  unfold ofs
  rcases h with ⟨rfl, rfl, rfl⟩ | ⟨x, rfl, rfl⟩ | ⟨b, off, rfl, h3, h4, h5⟩
  · exact .inl ⟨by simp, by omega, by omega⟩
  · by_cases hc : cap = lo
    · rw [if_pos hc]; exact .inr (.inl ⟨x, rfl, by omega⟩)
    · rw [if_neg hc]; exact .inr (.inl ⟨x.add (lo * 32), rfl, by omega⟩)
  · by_cases hc : cap = lo
    · rw [if_pos hc]; exact .inr (.inl ⟨_, rfl, by omega⟩)
    · rw [if_neg hc]
      refine .inr (.inr ⟨b, off + lo * 32, by rw [Option.map_some, Addr.add_mid], by omega, h4, fun j hj => ?_⟩)
      rw [show off + lo * 32 + j = off + (32 * lo + j) by omega]
      exact h5 _ (by omega)

end Go.Proofs.YtlidilnakiphiaaDoor

namespace Go.Proofs.YtlidilnakiphiaaDoor

open Go.RowKit

set_option linter.unusedVariables false

set_option linter.unusedSimpArgs false

attribute [local go_sem ↓] sv24_eq lv24_eq ix22_eq slr_eq

theorem Sh.low {w w' : World} {B : Nat} (h : Sh w) (hB : 3 ≤ B) (hb : Below B w w') : Sh w' :=
  ⟨⟨Nat.lt_of_lt_of_le h.1.1 hb.size, fun i hi => (below_cell hb (by omega)).trans (h.1.2 i hi)⟩, ⟨Nat.lt_of_lt_of_le h.2.1 hb.size, fun i hi => (below_cell hb (by omega)).trans (h.2.2 i hi)⟩⟩

end Go.Proofs.YtlidilnakiphiaaDoor

namespace Go.Proofs.YtlidilnakiphiaaDoor

open Go.RowKit

set_option linter.unusedVariables false

set_option linter.unusedSimpArgs false

attribute [local go_sem ↓] sv24_eq lv24_eq ix22_eq slr_eq

/- append of roots onto a row of the own -/

end Go.Proofs.YtlidilnakiphiaaDoor

namespace Go.Proofs.YtlidilnakiphiaaDoor

open Go.RowKit

set_option linter.unusedVariables false

set_option linter.unusedSimpArgs false

def bd27 (ps : Array (Nat × Value)) : Sem Value := Instr.build 24 ps

theorem bd27_eq (ps : Array (Nat × Value)) : Instr.build 24 ps = bd27 ps := rfl

def bs22 (n : Nat) (ps : Array (Nat × Value)) : Sem Value := Instr.buildSlice 32 n ps

theorem bs22_eq (n : Nat) (ps : Array (Nat × Value)) : Instr.buildSlice 32 n ps = bs22 n ps := rfl

theorem sv24_newv (W : World) (o c : Nat → Int) : (sv24 ⟨W.heap.size, 0, none⟩ (.agg (vs .u8 32 c))).run Tryd.prog (W.alloc (.cells (vs .u8 32 o) 24)) = .ok () (W.alloc (.cells (vs .u8 32 c) 24)) :=
  run_storeVar_new W 24 _ _ (by rw [vs_size]; kernel_rfl) (by rw [vs_size, vs_size]) (vs_one _ _ _)

theorem zero_root : ∀ w : World, (zeroValue 24).run Tryd.prog w = .ok (.agg (vs .u8 32 fun _ => 0)) w := (zero_of_info (n := 32) (by kernel_rfl)).1

attribute [local go_sem ↓] sv24_eq lv24_eq ix22_eq slr_eq bd27_eq bs22_eq

end Go.Proofs.YtlidilnakiphiaaDoor

namespace Go.Proofs.YtlidilnakiphiaaDoor

open Go.RowKit

set_option linter.unusedVariables false

set_option linter.unusedSimpArgs false

attribute [local go_sem ↓] sv24_eq lv24_eq ix22_eq slr_eq bd27_eq bs22_eq

/-- Tree's answer: the root and the error. -/
def okL (n : Int) : Prop := 0 ≤ n ∧ n ≤ 1099511627776

instance (n : Int) : Decidable (okL n) := inferInstanceAs (Decidable (0 ≤ n ∧ n ≤ 1099511627776))

def treeV (f : Nat → Int) (len : Nat) (n : Int) : Nat → Int := if okL n ∧ (len : Int) ≤ n then nd f len (dpt n.toNat) 0 else fun _ => 0

end Go.Proofs.YtlidilnakiphiaaDoor

namespace Go.Proofs.YtlidilnakiphiaaDoor

open Go.RowKit

set_option linter.unusedVariables false

set_option linter.unusedSimpArgs false

/-- Slices of bytes, whole. -/
def sl22 (x : Value) (lo hi : Option Value) : Sem Value := Instr.sliceAt 39 x lo hi none

theorem sl22_eq (x : Value) (lo hi : Option Value) : Instr.sliceAt 39 x lo hi none = sl22 x lo hi := rfl

/-- Roots made. -/
def mk22 (x y : Value) : Sem Value := Instr.makeSlice 32 x y

theorem mk22_eq (x y : Value) : Instr.makeSlice 32 x y = mk22 x y := rfl

/-- Bytes copied into a row of bytes. -/
theorem copy_to (W : World) (g N : Nat) (f z : Nat → Int) (p c : Nat) (x : Addr) (len cap dl dcap : Nat) (t : TypeId) (hg : W.heap[g]? = some (.cells (vs .u8 N f) t)) (hp : p + c ≤ N) (hc : c = Nat.min len dl) (hx : ∀ j, j < c → W.cell? (x.add j) = some (.int .u8 (z j))) :
    ∀ ty, (Builtin.copy_ #[39, 39] ty #[.slice (some ⟨g, p, none⟩) dl dcap, .slice (some x) len cap]).run Tryd.prog W = .ok (.int .i64 c) (W.setRow g (vs .u8 N (over f z p c))) := by
  intro ty
  have hrun := run_copy_row (P := Tryd.prog) W 39 39 ty 5 g p dl dcap x len cap (vs .u8 N f) t (bl z c) Tryd.underlying39 (by kernel_rfl) hg (by rw [bl_len]; exact hc)
    (fun j v hj => by
      obtain ⟨h1, rfl⟩ := bl_get z c j v hj
      exact hx j h1) (by rw [bl_len, vs_size]; exact hp) (bl_one z c)
  rw [hrun, bl_len]
  have e : ((vs .u8 N f).toList.take p ++ bl z c ++ (vs .u8 N f).toList.drop (p + c)).toArray = vs .u8 N (over f z p c) := by
    apply Array.ext_getElem?
    intro j
    rw [List.getElem?_toArray, List.append_assoc]
    have hl1 : ((vs .u8 N f).toList.take p).length = p := by rw [List.length_take, Array.length_toList, vs_size]; omega
    by_cases h1 : j < p
    · rw [List.getElem?_append_left (by omega), List.getElem?_take_of_lt h1, Array.getElem?_toList, vs_get _ _ _ _ (by omega), vs_get _ _ _ _ (by omega)]
      unfold over
      rw [if_neg (by omega)]
    · rw [List.getElem?_append_right (by omega), hl1]
      by_cases h2 : j < p + c
      · rw [List.getElem?_append_left (by rw [bl_len]; omega), bl_at _ _ _ (by omega), vs_get _ _ _ _ (by omega)]
        unfold over
        rw [if_pos (by omega)]
      · rw [List.getElem?_append_right (by rw [bl_len]; omega), bl_len, List.getElem?_drop, Array.getElem?_toList, show p + c + (j - p - c) = j by omega]
        by_cases h3 : j < N
        · rw [vs_get _ _ _ _ h3, vs_get _ _ _ _ h3]
          unfold over
          rw [if_neg (by omega)]
        · rw [vs_get_none _ _ _ _ (by omega), vs_get_none _ _ _ _ (by omega)]
  rw [e]
  rfl

/-- The packed bytes. -/
def pk (m : Nat → Int) (len : Nat) (q : Nat) : Int := if q < len then m q else 0

attribute [local go_sem ↓] sv24_eq lv24_eq ix22_eq slr_eq bd27_eq bs22_eq sl22_eq mk22_eq

end Go.Proofs.YtlidilnakiphiaaDoor

namespace Go.Proofs.YtlidilnakiphiaaDoor

open Go.RowKit

set_option linter.unusedVariables false

set_option linter.unusedSimpArgs false

attribute [local go_sem ↓] sv24_eq lv24_eq ix22_eq slr_eq bd27_eq bs22_eq sl22_eq mk22_eq

/-- A number as a chunk. -/
def nmB (n : Int) (j : Nat) : Int := n / 2 ^ (8 * j) % 256

end Go.Proofs.YtlidilnakiphiaaDoor

namespace Go.Proofs.YtlidilnakiphiaaDoor

open Go.RowKit

set_option linter.unusedVariables false

set_option linter.unusedSimpArgs false

attribute [local go_sem ↓] sv24_eq lv24_eq ix22_eq slr_eq bd27_eq bs22_eq sl22_eq mk22_eq

end Go.Proofs.YtlidilnakiphiaaDoor

namespace Go.Proofs.YtlidilnakiphiaaDoor

open Go.RowKit

set_option linter.unusedVariables false

set_option linter.unusedSimpArgs false

/-- Roots compared, whole. -/
def eqo (x y : Value) : Sem Value := binOp .eql 24 x y

theorem eqo_eq (x y : Value) : binOp .eql 24 x y = eqo x y := rfl

attribute [local go_sem ↓] sv24_eq lv24_eq ix22_eq slr_eq bd27_eq bs22_eq sl22_eq mk22_eq eqo_eq

end Go.Proofs.YtlidilnakiphiaaDoor
