/-
  Trees of hashes, as functions: zero roots, the nodes of a tree, the depth of a limit.
  Roots in memory: rows of bytes read and written thirty-two at a time; the block of a row of a tree.
  What a row tells at a place.
  What a row tells at any place; slices of roots; rows of the call's own.
  What rise makes of a row.
  What slices.Clone, lowest, isLimit and depthOf answer.
  What lowest makes; what Zero and Tree answer.
  What Tree answers.
  What Pack makes of bytes.
  What Mix and Holds answer.
  The fixed answers that every statement of layer 5 asks first are right.
  What MerkleMixes answers.
-/
import Derived.Test.YtpnpmgeokicpjaaGreatDoorHaE
import Derived.Lib.BitFns
import Derived.Deep.RegionHeld3
import Derived.Laws.AppendOwnNone
import Derived.Laws.MakeOwn
namespace Go.Proofs.YtpnpmgeokicpjaaGreatDoor

open Go.RowKit

set_option linter.unusedVariables false

set_option linter.unusedSimpArgs false

/-- The hash of two roots. -/
def tw (a b : Nat → Int) : Nat → Int := shaV KW HW (cat a b) 64

/-- The zero roots. -/
def zr : Nat → Nat → Int
  | 0 => fun _ => 0
  | n + 1 => tw (zr n) (zr n)

/-- The root number i of a flat row. -/
def rt32 (f : Nat → Int) (i : Nat) : Nat → Int := fun j => f (32 * i + j)

/-- The node number i of the level d of a tree over the first len roots of f. -/
def nd (f : Nat → Int) (len : Nat) : Nat → Nat → Nat → Int
  | 0, i => if i < len then rt32 f i else fun _ => 0
  | d + 1, i => tw (nd f len d (2 * i)) (nd f len d (2 * i + 1))

/-- How many nodes of a level stand over roots. -/
def up (len : Nat) : Nat → Nat
  | 0 => len
  | d + 1 => (up len d + 1) / 2

/-- The depth of a limit. -/
def dpt (n : Nat) : Nat := if n = 0 then 0 else Lib.bitLen (n - 1)

end Go.Proofs.YtpnpmgeokicpjaaGreatDoor

namespace Go.Proofs.YtpnpmgeokicpjaaGreatDoor

open Go.RowKit

set_option linter.unusedVariables false

set_option linter.unusedSimpArgs false

/-- An element's address, whole. -/
def ix22 (x i : Value) : Sem Value := Instr.indexAt 32 x i

theorem ix22_eq (x i : Value) : Instr.indexAt 32 x i = ix22 x i := rfl

theorem size_root (w : World) : (sizeOf 24).run Tryz.prog w = .ok 32 w := by
  have hi : (Tryz.prog.info? 24).map (·.size) = some 32 := by kernel_rfl
  cases hq : Tryz.prog.info? 24 with
  | none => simp [hq] at hi
  | some i => simp [hq] at hi; simp [sizeOf, typeInfo, hq, hi]

theorem ix22_run (w : World) (b off len cap i : Nat) (h : i < len) : (ix22 (.slice (some ⟨b, off, none⟩) len cap) (.int .i64 i)).run Tryz.prog w = .ok (.pointer (some ⟨b, off + 32 * i, none⟩)) w := by
  unfold ix22 Instr.indexAt
  have h1 : (0 : Int) ≤ (i : Int) ∧ (i : Int) < (len : Int) := by omega
  simp only [asIntOf, Sem.run_bind, Sem.run_pure, Result.andThen_ok, run_underlying Tryz.underlying32, if_pos h1, size_root, Addr.add_mid, Int.toNat_natCast]
  rw [Nat.mul_comm]

theorem lv24_mid {w : World} {b o : Nat} {c : Nat → Int} (h : ∀ j, j < 32 → w.cell? ⟨b, o + j, none⟩ = some (.int .u8 (c j))) : (lv24 ⟨b, o, none⟩).run Tryz.prog w = .ok (.agg (vs .u8 32 c)) w := by
  have hr : w.rangeAt b o ((List.range 32).map fun i => Value.int .u8 (c i)) := by
    intro j v hj
    have hlt : j < 32 := by
      have := (List.getElem?_eq_some_iff.1 hj).1
      simpa using this
    rw [h j hlt]
    simp [hlt] at hj
    rw [hj]
  exact loadAt_var (run_loadAt_mid w b o 24 _ _ hr Tryz.underlying24 rfl (by rw [List.length_map, List.length_range]; kernel_rfl))

/-- Values laid into an array from a place on. -/
def putL (C : Array Value) : Nat → List Value → Array Value
  | _, [] => C
  | o, v :: r => putL (C.setIfInBounds o v) (o + 1) r

theorem putL_get (l : List Value) : ∀ (C : Array Value) (o j : Nat), o + l.length ≤ C.size → (putL C o l)[j]? = if o ≤ j ∧ j < o + l.length then l[j - o]? else C[j]? := by
  induction l with
  | nil => intro C o j h; rw [if_neg (by simp)]; rfl
  | cons v r ih =>
    intro C o j h
    rw [List.length_cons] at h
    show (putL _ _ r)[j]? = _
    rw [ih _ _ _ (by simp; omega), List.length_cons]
    by_cases h1 : o + 1 ≤ j ∧ j < o + 1 + r.length
    · rw [if_pos h1, if_pos (by omega), show j - o = (j - (o + 1)) + 1 by omega, List.getElem?_cons_succ]
    · rw [if_neg h1, Array.getElem?_setIfInBounds]
      by_cases h2 : o = j
      · subst h2
        rw [if_pos rfl, if_pos (by omega), if_pos (by omega), Nat.sub_self]
        rfl
      · rw [if_neg h2, if_neg (by omega)]

theorem setCells_row {b : Nat} {t : TypeId} (l : List Value) : ∀ {w : World} {C : Array Value} (o : Nat), w.heap[b]? = some (.cells C t) → (w.setCells b o l).heap[b]? = some (.cells (putL C o l) t) := by
  induction l with
  | nil => intro w C o h; exact h
  | cons v r ih => intro w C o h; exact ih (o + 1) (row_set h o v)

theorem setCells_kept {b : Nat} {w0 : World} (l : List Value) : ∀ {w : World} (o : Nat), Kept b w0 w → Kept b w0 (w.setCells b o l) := by
  induction l with
  | nil => intro w o h; exact h
  | cons v r ih => intro w o h; exact ih (o + 1) (h.setCell o v)

theorem there_row {w : World} {b : Nat} {C : Array Value} {t : TypeId} (h : w.heap[b]? = some (.cells C t)) (o n : Nat) (hn : o + n ≤ C.size) : w.there b o n := by
  intro j hj
  refine ⟨?_, row_frozen h _⟩
  rw [row_cell h, Array.getElem?_eq_getElem (by omega)]
  rfl

/-- Roots in a row, whatever slice it is. -/
def Rts (w : World) (a : Option Addr) (len cap : Nat) (f : Nat → Int) : Prop :=
  (a = none ∧ len = 0 ∧ cap = 0) ∨ (∃ x, a = some x ∧ len = 0) ∨ ∃ b off, a = some ⟨b, off, none⟩ ∧ len ≤ cap ∧ b < w.heap.size ∧ ∀ j, j < 32 * len → w.cell? ⟨b, off + j, none⟩ = some (.int .u8 (f j))

theorem Rts.below {w w' : World} {a : Option Addr} {len cap : Nat} {f : Nat → Int} (h : Rts w a len cap f) (hb : Below w.heap.size w w') : Rts w' a len cap f := by
  rcases h with h | h | ⟨b, off, h1, h2, h3, h4⟩
  · exact .inl h
  · exact .inr (.inl h)
  · exact .inr (.inr ⟨b, off, h1, h2, Nat.lt_of_lt_of_le h3 hb.size, fun j hj => (below_cell hb h3).trans (h4 j hj)⟩)

/-- A root of a row: its address, and what lies there. -/
theorem Rts.at {w : World} {a : Option Addr} {len cap : Nat} {f : Nat → Int} (h : Rts w a len cap f) (i : Nat) (hi : i < len) :
    ∃ b o, b < w.heap.size ∧ (∀ W : World, (ix22 (.slice a len cap) (.int .i64 i)).run Tryz.prog W = .ok (.pointer (some ⟨b, o, none⟩)) W) ∧ ∀ j, j < 32 → w.cell? ⟨b, o + j, none⟩ = some (.int .u8 (rt32 f i j)) := by
  rcases h with ⟨_, h, _⟩ | ⟨_, _, h⟩ | ⟨b, off, rfl, h2, h3, h4⟩
  · omega
  · omega
  · exact ⟨b, off + 32 * i, h3, fun W => ix22_run W b off len cap i hi, fun j hj => by rw [Nat.add_assoc]; exact h4 _ (by omega)⟩

end Go.Proofs.YtpnpmgeokicpjaaGreatDoor

namespace Go.Proofs.YtpnpmgeokicpjaaGreatDoor

open Go.RowKit

set_option linter.unusedVariables false

set_option linter.unusedSimpArgs false

attribute [local go_sem ↓] sv24_eq lv24_eq ix22_eq

/-- The two tables of package sha. -/
def Sh (w : World) : Prop := Tab w 1 8 HW ∧ Tab w 2 64 KW

theorem Sh.below {w w' : World} (h : Sh w) (hb : Below w.heap.size w w') : Sh w' := ⟨h.1.below hb, h.2.below hb⟩

theorem Sh.kept {w w' : World} {g : Nat} (h : Sh w) (hb : Kept g w w') (h0 : 1 ≠ g) (h1 : 2 ≠ g) : Sh w' := ⟨hb.tab h.1 h0, hb.tab h.2 h1⟩

end Go.Proofs.YtpnpmgeokicpjaaGreatDoor

namespace Go.Proofs.YtpnpmgeokicpjaaGreatDoor

open Go.RowKit

set_option linter.unusedVariables false

set_option linter.unusedSimpArgs false

attribute [local go_sem ↓] sv24_eq lv24_eq ix22_eq

/-- Slices of roots, whole. -/
def slr (x : Value) (lo hi : Option Value) : Sem Value := Instr.sliceAt 32 x lo hi none

theorem slr_eq (x : Value) (lo hi : Option Value) : Instr.sliceAt 32 x lo hi none = slr x lo hi := rfl

def ofs (a : Option Addr) (cap lo : Nat) : Option Addr := if cap = lo then a else a.map (·.add (lo * 32))

theorem Rts.part {w : World} {a : Option Addr} {len cap : Nat} {f : Nat → Int} (h : Rts w a len cap f) (lo hi : Nat) (h1 : lo ≤ hi) (h2 : hi ≤ len) :
    Rts w (ofs a cap lo) (hi - lo) (cap - lo) (fun q => f (32 * lo + q)) := by
  unfold ofs
  rcases h with ⟨rfl, rfl, rfl⟩ | ⟨x, rfl, rfl⟩ | ⟨b, off, rfl, h3, h4, h5⟩
  · exact .inl ⟨by simp, by omega, by omega⟩
  · by_cases hc : cap = lo
    · rw [if_pos hc]; exact .inr (.inl ⟨x, rfl, by omega⟩)
    · rw [if_neg hc]; exact .inr (.inl ⟨x.add (lo * 32), rfl, by omega⟩)
  · by_cases hc : cap = lo
    · rw [if_pos hc]; exact .inr (.inl ⟨_, rfl, by omega⟩)
    · rw [if_neg hc]
      refine .inr (.inr ⟨b, off + lo * 32, by rw [Option.map_some, Addr.add_mid], by omega, h4, fun j hj => ?_⟩)
      rw [show off + lo * 32 + j = off + (32 * lo + j) by omega]
      exact h5 _ (by omega)

end Go.Proofs.YtpnpmgeokicpjaaGreatDoor

namespace Go.Proofs.YtpnpmgeokicpjaaGreatDoor

open Go.RowKit

set_option linter.unusedVariables false

set_option linter.unusedSimpArgs false

attribute [local go_sem ↓] sv24_eq lv24_eq ix22_eq slr_eq

theorem Sh.low {w w' : World} {B : Nat} (h : Sh w) (hB : 3 ≤ B) (hb : Below B w w') : Sh w' :=
  ⟨⟨Nat.lt_of_lt_of_le h.1.1 hb.size, fun i hi => (below_cell hb (by omega)).trans (h.1.2 i hi)⟩, ⟨Nat.lt_of_lt_of_le h.2.1 hb.size, fun i hi => (below_cell hb (by omega)).trans (h.2.2 i hi)⟩⟩

end Go.Proofs.YtpnpmgeokicpjaaGreatDoor

namespace Go.Proofs.YtpnpmgeokicpjaaGreatDoor

open Go.RowKit

set_option linter.unusedVariables false

set_option linter.unusedSimpArgs false

attribute [local go_sem ↓] sv24_eq lv24_eq ix22_eq slr_eq

/- append of roots onto a row of the own -/

theorem below_grownS {B s : Nat} {w0 w w' : World} {v : Value} {n : Nat} {xs : List Value} {e : TypeId} (hb : Below B w0 w) (ho : w.ownsRow B e s v n xs) (hB : B ≤ w.heap.size) (hg : w.grownBy w' v.ownBlock) : Below B w0 w' :=
  ⟨hg.os.trans hb.os, hg.tape.trans hb.tape, hg.output.trans hb.output, Nat.le_trans hb.size hg.size, fun k hk => (hg.block k (by omega) (fun e => by have := (ho.lt k e.symm).1; omega)).trans (hb.block k hk)⟩

end Go.Proofs.YtpnpmgeokicpjaaGreatDoor

namespace Go.Proofs.YtpnpmgeokicpjaaGreatDoor

open Go.RowKit

set_option linter.unusedVariables false

set_option linter.unusedSimpArgs false

def bd27 (ps : Array (Nat × Value)) : Sem Value := Instr.build 24 ps

theorem bd27_eq (ps : Array (Nat × Value)) : Instr.build 24 ps = bd27 ps := rfl

def bs22 (n : Nat) (ps : Array (Nat × Value)) : Sem Value := Instr.buildSlice 32 n ps

theorem bs22_eq (n : Nat) (ps : Array (Nat × Value)) : Instr.buildSlice 32 n ps = bs22 n ps := rfl

theorem sv24_newv (W : World) (o c : Nat → Int) : (sv24 ⟨W.heap.size, 0, none⟩ (.agg (vs .u8 32 c))).run Tryz.prog (W.alloc (.cells (vs .u8 32 o) 24)) = .ok () (W.alloc (.cells (vs .u8 32 c) 24)) :=
  run_storeVar_new W 24 _ _ (by rw [vs_size]; kernel_rfl) (by rw [vs_size, vs_size]) (vs_one _ _ _)

theorem zero_root : ∀ w : World, (zeroValue 24).run Tryz.prog w = .ok (.agg (vs .u8 32 fun _ => 0)) w := (zero_of_info (n := 32) (by kernel_rfl)).1

attribute [local go_sem ↓] sv24_eq lv24_eq ix22_eq slr_eq bd27_eq bs22_eq

end Go.Proofs.YtpnpmgeokicpjaaGreatDoor

namespace Go.Proofs.YtpnpmgeokicpjaaGreatDoor

open Go.RowKit

set_option linter.unusedVariables false

set_option linter.unusedSimpArgs false

attribute [local go_sem ↓] sv24_eq lv24_eq ix22_eq slr_eq bd27_eq bs22_eq

/-- Tree's answer: the root and the error. -/
def okL (n : Int) : Prop := 0 ≤ n ∧ n ≤ 1099511627776

instance (n : Int) : Decidable (okL n) := inferInstanceAs (Decidable (0 ≤ n ∧ n ≤ 1099511627776))

def treeV (f : Nat → Int) (len : Nat) (n : Int) : Nat → Int := if okL n ∧ (len : Int) ≤ n then nd f len (dpt n.toNat) 0 else fun _ => 0

end Go.Proofs.YtpnpmgeokicpjaaGreatDoor

namespace Go.Proofs.YtpnpmgeokicpjaaGreatDoor

open Go.RowKit

set_option linter.unusedVariables false

set_option linter.unusedSimpArgs false

/-- Slices of bytes, whole. -/
def sl22 (x : Value) (lo hi : Option Value) : Sem Value := Instr.sliceAt 39 x lo hi none

theorem sl22_eq (x : Value) (lo hi : Option Value) : Instr.sliceAt 39 x lo hi none = sl22 x lo hi := rfl

/-- Roots made. -/
def mk22 (x y : Value) : Sem Value := Instr.makeSlice 32 x y

theorem mk22_eq (x y : Value) : Instr.makeSlice 32 x y = mk22 x y := rfl

/-- The packed bytes. -/
def pk (m : Nat → Int) (len : Nat) (q : Nat) : Int := if q < len then m q else 0

attribute [local go_sem ↓] sv24_eq lv24_eq ix22_eq slr_eq bd27_eq bs22_eq sl22_eq mk22_eq

end Go.Proofs.YtpnpmgeokicpjaaGreatDoor

namespace Go.Proofs.YtpnpmgeokicpjaaGreatDoor

open Go.RowKit

set_option linter.unusedVariables false

set_option linter.unusedSimpArgs false

attribute [local go_sem ↓] sv24_eq lv24_eq ix22_eq slr_eq bd27_eq bs22_eq sl22_eq mk22_eq

/-- A number as a chunk. -/
def nmB (n : Int) (j : Nat) : Int := n / 2 ^ (8 * j) % 256

/-- Roots compared. -/
def eqR (c d : Nat → Int) : Bool := (List.range 32).all fun j => c j == d j

theorem eqR_self (c : Nat → Int) : eqR c c = true := by simp [eqR]

theorem eqR_congr {c c' d d' : Nat → Int} (h : ∀ j, j < 32 → c j = c' j) (h' : ∀ j, j < 32 → d j = d' j) : eqR c d = eqR c' d' := by
  unfold eqR
  rw [Bool.eq_iff_iff]
  simp only [List.all_eq_true, List.mem_range, beq_iff_eq]
  constructor
  · intro hh j hj; rw [← h j hj, ← h' j hj]; exact hh j hj
  · intro hh j hj; rw [h j hj, h' j hj]; exact hh j hj

theorem eq32g (w : World) (c d : Nat → Int) : (Op.equalIn 10000 24 (.agg (vs .u8 32 c)) (.agg (vs .u8 32 d))).run Tryz.prog w = .ok (eqR c d) w := by
  have hi : ∃ i, Tryz.prog.info? 5 = some i := Option.isSome_iff_exists.1 (by kernel_rfl)
  obtain ⟨i, hi⟩ := hi
  have hc : Tryz.prog.cellsOf 5 = 1 := by kernel_rfl
  rw [run_equalIn_array w 9999 _ _ Tryz.underlying24 hi, hc]
  exact run_eqItems_ints (P := Tryz.prog) 9998 5 .u8 .u8 Tryz.underlying5 agg_u8 (vs .u8 32 c) (vs .u8 32 d) c d w (List.range 32) (by
    intro j hj
    have hj := List.mem_range.1 hj
    exact ⟨vs_get _ _ _ _ hj, vs_get _ _ _ _ hj⟩)

end Go.Proofs.YtpnpmgeokicpjaaGreatDoor

namespace Go.Proofs.YtpnpmgeokicpjaaGreatDoor

open Go.RowKit

set_option linter.unusedVariables false

set_option linter.unusedSimpArgs false

attribute [local go_sem ↓] sv24_eq lv24_eq ix22_eq slr_eq bd27_eq bs22_eq sl22_eq mk22_eq

end Go.Proofs.YtpnpmgeokicpjaaGreatDoor

namespace Go.Proofs.YtpnpmgeokicpjaaGreatDoor

open Go.RowKit

set_option linter.unusedVariables false

set_option linter.unusedSimpArgs false

/-- Roots compared, whole. -/
def eqo (x y : Value) : Sem Value := binOp .eql 24 x y

theorem eqo_eq (x y : Value) : binOp .eql 24 x y = eqo x y := rfl

attribute [local go_sem ↓] sv24_eq lv24_eq ix22_eq slr_eq bd27_eq bs22_eq sl22_eq mk22_eq eqo_eq

theorem own_bys {w : World} {B : Nat} {v : Value} {n : Nat} {m : Nat → Int} (h : w.ownsRow B 5 1 v n (bl m n)) : ∃ a cap, v = .slice a n cap ∧ Bys w a n cap m ∧ (a = none → n = 0) := by
  rcases h with ⟨h0, ⟨rfl, rfl⟩ | ⟨g, cap, cur, rfl, h1, h2, h3, h4, h5, h6⟩⟩
  · exact ⟨none, 0, rfl, .inl ⟨rfl, rfl, rfl⟩, fun _ => rfl⟩
  · have hg := (Array.getElem?_eq_some_iff.1 h2).1
    unfold maxLen at h4
    refine ⟨_, cap, rfl, .inr (.inr ⟨g, 0, rfl, h3, by omega, hg, fun j hj => ?_⟩), fun h => by cases h⟩
    have h7 : (cur.toList.take (n * 1))[j]? = (bl m n)[j]? := by rw [h6]
    rw [List.getElem?_take_of_lt (by omega), bl_at _ _ _ hj, Array.getElem?_toList] at h7
    rw [Nat.zero_add, row_cell h2, h7]

end Go.Proofs.YtpnpmgeokicpjaaGreatDoor
