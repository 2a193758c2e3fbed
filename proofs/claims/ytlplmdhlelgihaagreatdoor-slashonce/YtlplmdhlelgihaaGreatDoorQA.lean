/-
  Trees of hashes, as functions: zero roots, the nodes of a tree, the depth of a limit.
  Roots in memory: rows of bytes read and written thirty-two at a time; the block of a row of a tree.
  What a row tells at a place.
  What a row tells at any place; slices of roots; rows of the call's own.
  What rise makes of a row.
  What slices.Clone, lowest, isLimit and depthOf answer.
  What lowest makes; what Zero and Tree answer.
  What Tree answers.
  What Pack makes of bytes.
  What Mix and Holds answer.
  The fixed answers that every statement of layer 5 asks first are right.
  What MerkleMixes answers.
  What the reference's Sum answers.
  What the reference's Two answers; bytes as a string.
  What the reference's recursion answers.
  append onto a row of roots in a region that draws its order; what the reference's zeros answers.
  What the reference's Tree, Bytes and Mix answer.
  What the reference's Pack answers.
-/
import Derived.Test.YtlplmdhlelgihaaGreatDoorHaE
import Derived.Test.YtlplmdhlelgihaaGreatDoorHaB
import Derived.Test.YtlplmdhlelgihaaGreatDoorHaD
import Derived.Lib.BitFns
import Derived.Deep.RegionHeld3
import Derived.Laws.AppendOwnNone
import Derived.Laws.MakeOwn
import Derived.Deep.RegionWith
import Derived.Laws.BytesString
namespace Go.Proofs.YtlplmdhlelgihaaGreatDoor

open Go.RowKit

set_option linter.unusedVariables false

set_option linter.unusedSimpArgs false

/-- The hash of two roots. -/
def tw (a b : Nat → Int) : Nat → Int := shaV KW HW (cat a b) 64

/-- The zero roots. -/
def zr : Nat → Nat → Int
  | 0 => fun _ => 0
  | n + 1 => tw (zr n) (zr n)

/-- The root number i of a flat row. -/
def rt32 (f : Nat → Int) (i : Nat) : Nat → Int := fun j => f (32 * i + j)

/-- The node number i of the level d of a tree over the first len roots of f. -/
def nd (f : Nat → Int) (len : Nat) : Nat → Nat → Nat → Int
  | 0, i => if i < len then rt32 f i else fun _ => 0
  | d + 1, i => tw (nd f len d (2 * i)) (nd f len d (2 * i + 1))

/-- How many nodes of a level stand over roots. -/
def up (len : Nat) : Nat → Nat
  | 0 => len
  | d + 1 => (up len d + 1) / 2

/-- The depth of a limit. -/
def dpt (n : Nat) : Nat := if n = 0 then 0 else Lib.bitLen (n - 1)

end Go.Proofs.YtlplmdhlelgihaaGreatDoor

namespace Go.Proofs.YtlplmdhlelgihaaGreatDoor

open Go.RowKit

set_option linter.unusedVariables false

set_option linter.unusedSimpArgs false

/-- An element's address, whole. -/
def ix22 (x i : Value) : Sem Value := Instr.indexAt 32 x i

theorem ix22_eq (x i : Value) : Instr.indexAt 32 x i = ix22 x i := rfl

theorem size_root (w : World) : (sizeOf 24).run Tryz.prog w = .ok 32 w := by
  have hi : (Tryz.prog.info? 24).map (·.size) = some 32 := by kernel_rfl
  cases hq : Tryz.prog.info? 24 with
  | none => simp [hq] at hi
  | some i => simp [hq] at hi; simp [sizeOf, typeInfo, hq, hi]

theorem ix22_run (w : World) (b off len cap i : Nat) (h : i < len) : (ix22 (.slice (some ⟨b, off, none⟩) len cap) (.int .i64 i)).run Tryz.prog w = .ok (.pointer (some ⟨b, off + 32 * i, none⟩)) w := by
  unfold ix22 Instr.indexAt
  have h1 : (0 : Int) ≤ (i : Int) ∧ (i : Int) < (len : Int) := by omega
  simp only [asIntOf, Sem.run_bind, Sem.run_pure, Result.andThen_ok, run_underlying Tryz.underlying32, if_pos h1, size_root, Addr.add_mid, Int.toNat_natCast]
  rw [Nat.mul_comm]

theorem lv24_mid {w : World} {b o : Nat} {c : Nat → Int} (h : ∀ j, j < 32 → w.cell? ⟨b, o + j, none⟩ = some (.int .u8 (c j))) : (lv24 ⟨b, o, none⟩).run Tryz.prog w = .ok (.agg (vs .u8 32 c)) w := by
  have hr : w.rangeAt b o ((List.range 32).map fun i => Value.int .u8 (c i)) := by
    intro j v hj
    have hlt : j < 32 := by
      have := (List.getElem?_eq_some_iff.1 hj).1
      simpa using this
    rw [h j hlt]
    simp [hlt] at hj
    rw [hj]
  exact loadAt_var (run_loadAt_mid w b o 24 _ _ hr Tryz.underlying24 rfl (by rw [List.length_map, List.length_range]; kernel_rfl))

/-- Values laid into an array from a place on. -/
def putL (C : Array Value) : Nat → List Value → Array Value
  | _, [] => C
  | o, v :: r => putL (C.setIfInBounds o v) (o + 1) r

theorem setCells_row {b : Nat} {t : TypeId} (l : List Value) : ∀ {w : World} {C : Array Value} (o : Nat), w.heap[b]? = some (.cells C t) → (w.setCells b o l).heap[b]? = some (.cells (putL C o l) t) := by
  induction l with
  | nil => intro w C o h; exact h
  | cons v r ih => intro w C o h; exact ih (o + 1) (row_set h o v)

theorem setCells_kept {b : Nat} {w0 : World} (l : List Value) : ∀ {w : World} (o : Nat), Kept b w0 w → Kept b w0 (w.setCells b o l) := by
  induction l with
  | nil => intro w o h; exact h
  | cons v r ih => intro w o h; exact ih (o + 1) (h.setCell o v)

/-- Roots in a row, whatever slice it is. -/
def Rts (w : World) (a : Option Addr) (len cap : Nat) (f : Nat → Int) : Prop :=
  (a = none ∧ len = 0 ∧ cap = 0) ∨ (∃ x, a = some x ∧ len = 0) ∨ ∃ b off, a = some ⟨b, off, none⟩ ∧ len ≤ cap ∧ b < w.heap.size ∧ ∀ j, j < 32 * len → w.cell? ⟨b, off + j, none⟩ = some (.int .u8 (f j))

theorem Rts.below {w w' : World} {a : Option Addr} {len cap : Nat} {f : Nat → Int} (h : Rts w a len cap f) (hb : Below w.heap.size w w') : Rts w' a len cap f := by
  rcases h with h | h | ⟨b, off, h1, h2, h3, h4⟩
  · exact .inl h
  · exact .inr (.inl h)
  · exact .inr (.inr ⟨b, off, h1, h2, Nat.lt_of_lt_of_le h3 hb.size, fun j hj => (below_cell hb h3).trans (h4 j hj)⟩)

/-- A root of a row: its address, and what lies there. -/
theorem Rts.at {w : World} {a : Option Addr} {len cap : Nat} {f : Nat → Int} (h : Rts w a len cap f) (i : Nat) (hi : i < len) :
    ∃ b o, b < w.heap.size ∧ (∀ W : World, (ix22 (.slice a len cap) (.int .i64 i)).run Tryz.prog W = .ok (.pointer (some ⟨b, o, none⟩)) W) ∧ ∀ j, j < 32 → w.cell? ⟨b, o + j, none⟩ = some (.int .u8 (rt32 f i j)) := by
  rcases h with ⟨_, h, _⟩ | ⟨_, _, h⟩ | ⟨b, off, rfl, h2, h3, h4⟩
  · omega
  · omega
  · exact ⟨b, off + 32 * i, h3, fun W => ix22_run W b off len cap i hi, fun j hj => by rw [Nat.add_assoc]; exact h4 _ (by omega)⟩

end Go.Proofs.YtlplmdhlelgihaaGreatDoor

namespace Go.Proofs.YtlplmdhlelgihaaGreatDoor

open Go.RowKit

set_option linter.unusedVariables false

set_option linter.unusedSimpArgs false

attribute [local go_sem ↓] sv24_eq lv24_eq ix22_eq

/-- The two tables of package sha. -/
def Sh (w : World) : Prop := Tab w 0 8 HW ∧ Tab w 1 64 KW

theorem Sh.below {w w' : World} (h : Sh w) (hb : Below w.heap.size w w') : Sh w' := ⟨h.1.below hb, h.2.below hb⟩

theorem Sh.kept {w w' : World} {g : Nat} (h : Sh w) (hb : Kept g w w') (h0 : 0 ≠ g) (h1 : 1 ≠ g) : Sh w' := ⟨hb.tab h.1 h0, hb.tab h.2 h1⟩

end Go.Proofs.YtlplmdhlelgihaaGreatDoor

namespace Go.Proofs.YtlplmdhlelgihaaGreatDoor

open Go.RowKit

set_option linter.unusedVariables false

set_option linter.unusedSimpArgs false

attribute [local go_sem ↓] sv24_eq lv24_eq ix22_eq

/-- Slices of roots, whole. -/
def slr (x : Value) (lo hi : Option Value) : Sem Value := Instr.sliceAt 32 x lo hi none

theorem slr_eq (x : Value) (lo hi : Option Value) : Instr.sliceAt 32 x lo hi none = slr x lo hi := rfl

def ofs (a : Option Addr) (cap lo : Nat) : Option Addr := if cap = lo then a else a.map (·.add (lo * 32))

theorem Rts.part {w : World} {a : Option Addr} {len cap : Nat} {f : Nat → Int} (h : Rts w a len cap f) (lo hi : Nat) (h1 : lo ≤ hi) (h2 : hi ≤ len) :
    Rts w (ofs a cap lo) (hi - lo) (cap - lo) (fun q => f (32 * lo + q)) := by
  unfold ofs
  rcases h with ⟨rfl, rfl, rfl⟩ | ⟨x, rfl, rfl⟩ | ⟨b, off, rfl, h3, h4, h5⟩
  · exact .inl ⟨by simp, by omega, by omega⟩
  · by_cases hc : cap = lo
    · rw [if_pos hc]; exact .inr (.inl ⟨x, rfl, by omega⟩)
    · rw [if_neg hc]; exact .inr (.inl ⟨x.add (lo * 32), rfl, by omega⟩)
  · by_cases hc : cap = lo
    · rw [if_pos hc]; exact .inr (.inl ⟨_, rfl, by omega⟩)
    · rw [if_neg hc]
      refine .inr (.inr ⟨b, off + lo * 32, by rw [Option.map_some, Addr.add_mid], by omega, h4, fun j hj => ?_⟩)
      rw [show off + lo * 32 + j = off + (32 * lo + j) by omega]
      exact h5 _ (by omega)

end Go.Proofs.YtlplmdhlelgihaaGreatDoor

namespace Go.Proofs.YtlplmdhlelgihaaGreatDoor

open Go.RowKit

set_option linter.unusedVariables false

set_option linter.unusedSimpArgs false

attribute [local go_sem ↓] sv24_eq lv24_eq ix22_eq slr_eq

theorem Sh.low {w w' : World} {B : Nat} (h : Sh w) (hB : 3 ≤ B) (hb : Below B w w') : Sh w' :=
  ⟨⟨Nat.lt_of_lt_of_le h.1.1 hb.size, fun i hi => (below_cell hb (by omega)).trans (h.1.2 i hi)⟩, ⟨Nat.lt_of_lt_of_le h.2.1 hb.size, fun i hi => (below_cell hb (by omega)).trans (h.2.2 i hi)⟩⟩

end Go.Proofs.YtlplmdhlelgihaaGreatDoor

namespace Go.Proofs.YtlplmdhlelgihaaGreatDoor

open Go.RowKit

set_option linter.unusedVariables false

set_option linter.unusedSimpArgs false

attribute [local go_sem ↓] sv24_eq lv24_eq ix22_eq slr_eq

/- append of roots onto a row of the own -/

theorem below_grownS {B s : Nat} {w0 w w' : World} {v : Value} {n : Nat} {xs : List Value} {e : TypeId} (hb : Below B w0 w) (ho : w.ownsRow B e s v n xs) (hB : B ≤ w.heap.size) (hg : w.grownBy w' v.ownBlock) : Below B w0 w' :=
  ⟨hg.os.trans hb.os, hg.tape.trans hb.tape, hg.output.trans hb.output, Nat.le_trans hb.size hg.size, fun k hk => (hg.block k (by omega) (fun e => by have := (ho.lt k e.symm).1; omega)).trans (hb.block k hk)⟩

end Go.Proofs.YtlplmdhlelgihaaGreatDoor

namespace Go.Proofs.YtlplmdhlelgihaaGreatDoor

open Go.RowKit

set_option linter.unusedVariables false

set_option linter.unusedSimpArgs false

/-- A row's block read and written whole. -/
def lv48 (a : Addr) : Sem Value := loadVar 151 a

def sv48 (a : Addr) (v : Value) : Sem Unit := storeVar 151 a v

theorem lv48_eq (a : Addr) : loadVar 151 a = lv48 a := rfl

theorem sv48_eq (a : Addr) (v : Value) : storeVar 151 a v = sv48 a v := rfl

/-- Values built, whole. -/
def bd48 (ps : Array (Nat × Value)) : Sem Value := Instr.build 151 ps

theorem bd48_eq (ps : Array (Nat × Value)) : Instr.build 151 ps = bd48 ps := rfl

def bd27 (ps : Array (Nat × Value)) : Sem Value := Instr.build 24 ps

theorem bd27_eq (ps : Array (Nat × Value)) : Instr.build 24 ps = bd27 ps := rfl

def bs22 (n : Nat) (ps : Array (Nat × Value)) : Sem Value := Instr.buildSlice 32 n ps

theorem bs22_eq (n : Nat) (ps : Array (Nat × Value)) : Instr.buildSlice 32 n ps = bs22 n ps := rfl

theorem sv24_newv (W : World) (o c : Nat → Int) : (sv24 ⟨W.heap.size, 0, none⟩ (.agg (vs .u8 32 c))).run Tryz.prog (W.alloc (.cells (vs .u8 32 o) 24)) = .ok () (W.alloc (.cells (vs .u8 32 c) 24)) :=
  run_storeVar_new W 24 _ _ (by rw [vs_size]; kernel_rfl) (by rw [vs_size, vs_size]) (vs_one _ _ _)

theorem zero_root : ∀ w : World, (zeroValue 24).run Tryz.prog w = .ok (.agg (vs .u8 32 fun _ => 0)) w := (zero_of_info (n := 32) (by kernel_rfl)).1

attribute [local go_sem ↓] sv24_eq lv24_eq ix22_eq slr_eq lv48_eq sv48_eq bd48_eq bd27_eq bs22_eq

end Go.Proofs.YtlplmdhlelgihaaGreatDoor

namespace Go.Proofs.YtlplmdhlelgihaaGreatDoor

open Go.RowKit

set_option linter.unusedVariables false

set_option linter.unusedSimpArgs false

attribute [local go_sem ↓] sv24_eq lv24_eq ix22_eq slr_eq lv48_eq sv48_eq bd48_eq bd27_eq bs22_eq

/-- Tree's answer: the root and the error. -/
def okL (n : Int) : Prop := 0 ≤ n ∧ n ≤ 1099511627776

instance (n : Int) : Decidable (okL n) := inferInstanceAs (Decidable (0 ≤ n ∧ n ≤ 1099511627776))

def treeV (f : Nat → Int) (len : Nat) (n : Int) : Nat → Int := if okL n ∧ (len : Int) ≤ n then nd f len (dpt n.toNat) 0 else fun _ => 0

end Go.Proofs.YtlplmdhlelgihaaGreatDoor

namespace Go.Proofs.YtlplmdhlelgihaaGreatDoor

open Go.RowKit

set_option linter.unusedVariables false

set_option linter.unusedSimpArgs false

/-- Slices of bytes, whole. -/
def sl22 (x : Value) (lo hi : Option Value) : Sem Value := Instr.sliceAt 39 x lo hi none

theorem sl22_eq (x : Value) (lo hi : Option Value) : Instr.sliceAt 39 x lo hi none = sl22 x lo hi := rfl

/-- Roots made. -/
def mk22 (x y : Value) : Sem Value := Instr.makeSlice 32 x y

theorem mk22_eq (x y : Value) : Instr.makeSlice 32 x y = mk22 x y := rfl

/-- The packed bytes. -/
def pk (m : Nat → Int) (len : Nat) (q : Nat) : Int := if q < len then m q else 0

attribute [local go_sem ↓] sv24_eq lv24_eq ix22_eq slr_eq lv48_eq sv48_eq bd48_eq bd27_eq bs22_eq sl22_eq mk22_eq

end Go.Proofs.YtlplmdhlelgihaaGreatDoor

namespace Go.Proofs.YtlplmdhlelgihaaGreatDoor

open Go.RowKit

set_option linter.unusedVariables false

set_option linter.unusedSimpArgs false

attribute [local go_sem ↓] sv24_eq lv24_eq ix22_eq slr_eq lv48_eq sv48_eq bd48_eq bd27_eq bs22_eq sl22_eq mk22_eq

/-- A number as a chunk. -/
def nmB (n : Int) (j : Nat) : Int := n / 2 ^ (8 * j) % 256

/-- Roots compared. -/
def eqR (c d : Nat → Int) : Bool := (List.range 32).all fun j => c j == d j

end Go.Proofs.YtlplmdhlelgihaaGreatDoor

namespace Go.Proofs.YtlplmdhlelgihaaGreatDoor

open Go.RowKit

set_option linter.unusedVariables false

set_option linter.unusedSimpArgs false

attribute [local go_sem ↓] sv24_eq lv24_eq ix22_eq slr_eq lv48_eq sv48_eq bd48_eq bd27_eq bs22_eq sl22_eq mk22_eq

end Go.Proofs.YtlplmdhlelgihaaGreatDoor

namespace Go.Proofs.YtlplmdhlelgihaaGreatDoor

open Go.RowKit

set_option linter.unusedVariables false

set_option linter.unusedSimpArgs false

/-- Roots compared, whole. -/
def eqo (x y : Value) : Sem Value := binOp .eql 24 x y

theorem eqo_eq (x y : Value) : binOp .eql 24 x y = eqo x y := rfl

attribute [local go_sem ↓] sv24_eq lv24_eq ix22_eq slr_eq lv48_eq sv48_eq bd48_eq bd27_eq bs22_eq sl22_eq mk22_eq eqo_eq

theorem own_bys {w : World} {B : Nat} {v : Value} {n : Nat} {m : Nat → Int} (h : w.ownsRow B 5 1 v n (bl m n)) : ∃ a cap, v = .slice a n cap ∧ Bys w a n cap m ∧ (a = none → n = 0) := by
  rcases h with ⟨h0, ⟨rfl, rfl⟩ | ⟨g, cap, cur, rfl, h1, h2, h3, h4, h5, h6⟩⟩
  · exact ⟨none, 0, rfl, .inl ⟨rfl, rfl, rfl⟩, fun _ => rfl⟩
  · have hg := (Array.getElem?_eq_some_iff.1 h2).1
    unfold maxLen at h4
    refine ⟨_, cap, rfl, .inr (.inr ⟨g, 0, rfl, h3, by omega, hg, fun j hj => ?_⟩), fun h => by cases h⟩
    have h7 : (cur.toList.take (n * 1))[j]? = (bl m n)[j]? := by rw [h6]
    rw [List.getElem?_take_of_lt (by omega), bl_at _ _ _ hj, Array.getElem?_toList] at h7
    rw [Nat.zero_add, row_cell h2, h7]

end Go.Proofs.YtlplmdhlelgihaaGreatDoor

namespace Go.Proofs.YtlplmdhlelgihaaGreatDoor

open Go.RowKit

set_option linter.unusedVariables false

def sv40 (a : Addr) (v : Value) : Sem Unit := storeVar 142 a v

theorem sv40_eq (a : Addr) (v : Value) : storeVar 142 a v = sv40 a v := rfl

attribute [local go_sem ↓] sv24_eq lv24_eq sv40_eq lv40_eq

end Go.Proofs.YtlplmdhlelgihaaGreatDoor

namespace Go.Proofs.YtlplmdhlelgihaaGreatDoor

open Go.RowKit

set_option linter.unusedVariables false

set_option linter.unusedSimpArgs false

attribute [local go_sem ↓] sv24_eq lv24_eq

/-- The string of the first len bytes. -/
def strF (m : Nat → Int) (len : Nat) : ByteArray := ((List.range len).map m).foldl (fun r n => r.push (UInt8.ofNat n.toNat)) ByteArray.empty

theorem conv_bys (w : World) (a : Option Addr) (len cap : Nat) (m : Nat → Int) (h : Bys w a len cap m) :
    (convert 39 9 (.slice a len cap)).run Tryz.prog w = .ok (.string (strF m len)) w := by
  rw [run_convert_bytes_string w _ _ _ _ _ _ Tryz.underlying39 Tryz.underlying5 Tryz.underlying9]
  have hs : ∀ (x : Addr), a = some x → (∀ j, j < len → w.cell? (x.add j) = some (.int .u8 (m j))) → (Conv.bytesToString (.slice a len cap)).run Tryz.prog w = .ok (.string (strF m len)) w := by
    rintro x rfl hc
    refine run_bytesToString w x len cap ((List.range len).map m) ?_
    have hh := run_loadCells_list (P := Tryz.prog) w x (((List.range len).map m).map (Value.int .u8)) (by
      intro j v hj
      rw [List.map_map] at hj
      have hlt := (List.getElem?_eq_some_iff.1 hj).1
      rw [List.length_map, List.length_range] at hlt
      rw [hc j hlt]
      rw [List.getElem?_map, List.getElem?_range hlt] at hj
      simpa using hj)
    rw [List.length_map, List.length_map, List.length_range] at hh
    exact hh
  rcases h with ⟨rfl, rfl, rfl⟩ | ⟨x, rfl, rfl⟩ | ⟨b, off, rfl, h2, h3, h4, h5⟩
  · simp [Conv.bytesToString, strF]
  · exact hs x rfl (fun j hj => by omega)
  · exact hs _ rfl (fun j hj => by rw [addr_add]; exact h5 j hj)

end Go.Proofs.YtlplmdhlelgihaaGreatDoor

namespace Go.Proofs.YtlplmdhlelgihaaGreatDoor

open Go.RowKit

set_option linter.unusedVariables false

set_option linter.unusedSimpArgs false

attribute [local go_sem ↓] sv24_eq lv24_eq ix22_eq slr_eq lv48_eq sv48_eq bd48_eq bd27_eq bs22_eq sl22_eq mk22_eq eqo_eq

theorem Rts.cut {w : World} {a : Option Addr} {len cap n : Nat} {f : Nat → Int} (h : Rts w a len cap f) (hn : n ≤ len) : Rts w a n cap f := by
  rcases h with ⟨h1, h2, h3⟩ | ⟨x, h1, h2⟩ | ⟨b, off, h1, h2, h3, h4⟩
  · exact .inl ⟨h1, by omega, h3⟩
  · exact .inr (.inl ⟨x, h1, by omega⟩)
  · exact .inr (.inr ⟨b, off, h1, by omega, h3, fun j hj => h4 j (by omega)⟩)

end Go.Proofs.YtlplmdhlelgihaaGreatDoor

namespace Go.Proofs.YtlplmdhlelgihaaGreatDoor

open Go.RowKit

set_option linter.unusedVariables false

set_option linter.unusedSimpArgs false

theorem ownsRow_below {w w' : World} {B : Nat} {v : Value} {n s : Nat} {xs : List Value} {e : TypeId} (h : w.ownsRow B e s v n xs) (hb : Below w.heap.size w w') : w'.ownsRow B e s v n xs :=
  h.kept (row := none) ⟨hb.os, hb.tape, hb.output, hb.size, fun k hk _ => hb.block k hk⟩ (by cases v.ownBlock <;> simp)

attribute [local go_sem ↓] sv24_eq lv24_eq ix22_eq slr_eq lv48_eq sv48_eq bd48_eq bd27_eq bs22_eq sl22_eq mk22_eq eqo_eq

end Go.Proofs.YtlplmdhlelgihaaGreatDoor

namespace Go.Proofs.YtlplmdhlelgihaaGreatDoor

open Go.RowKit

set_option linter.unusedVariables false

set_option linter.unusedSimpArgs false

attribute [local go_sem ↓] sv24_eq lv24_eq ix22_eq slr_eq lv48_eq sv48_eq bd48_eq bd27_eq bs22_eq sl22_eq mk22_eq eqo_eq

set_option maxHeartbeats 1000000 in
theorem rbytes_any (n : Int) (w : World) (h0 : 0 ≤ n) (h1 : n ≤ 18446744073709551615) :
    Calls Tryz.prog 67 #[.int .u64 n] w fun e w' => e = .returned (.agg (vs .u8 8 (nmB n))) ∧ Below w.heap.size w w' := by
  have e0 : vs .u8 8 (nmB n) = #[.int .u8 (n % 256), .int .u8 (n / 256 % 256), .int .u8 (n / 65536 % 256), .int .u8 (n / 16777216 % 256), .int .u8 (n / 4294967296 % 256), .int .u8 (n / 1099511627776 % 256), .int .u8 (n / 281474976710656 % 256), .int .u8 (n / 72057594037927936)] := by
    have e7 : n / 72057594037927936 = n / 72057594037927936 % 256 := by omega
    have e1 : n % 256 = n / 1 % 256 := by omega
    rw [e7, e1]
    rfl
  rw [e0]
  clear e0
  go_enter Tryz.func67, Tryz.ntmps67
  go_wp2
  go_rounds 9
  go_returns
  exact ⟨rfl, by go_grown⟩

/-- Eight bytes stored, whole. -/
def sv53 (a : Addr) (v : Value) : Sem Unit := storeVar 127 a v

theorem sv53_eq (a : Addr) (v : Value) : storeVar 127 a v = sv53 a v := rfl

attribute [local go_sem ↓] sv53_eq

end Go.Proofs.YtlplmdhlelgihaaGreatDoor

namespace Go.Proofs.YtlplmdhlelgihaaGreatDoor

open Go.RowKit

set_option linter.unusedVariables false

set_option linter.unusedSimpArgs false

attribute [local go_sem ↓] sv24_eq lv24_eq ix22_eq slr_eq lv48_eq sv48_eq bd48_eq bd27_eq bs22_eq mk22_eq eqo_eq

end Go.Proofs.YtlplmdhlelgihaaGreatDoor
