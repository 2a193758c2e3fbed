/-
  Trees of hashes, as functions: zero roots, the nodes of a tree, the depth of a limit.
  Roots in memory: rows of bytes read and written thirty-two at a time; the block of a row of a tree.
  What a row tells at a place.
  What a row tells at any place; slices of roots; rows of the call's own.
  What rise makes of a row.
  What slices.Clone, lowest, isLimit and depthOf answer.
  What lowest makes; what Zero and Tree answer.
  What Tree answers.
  What Pack makes of bytes.
  What Mix and Holds answer.
  The fixed answers that every statement of layer 5 asks first are right.
  What MerkleMixes answers.
-/
import Derived.Test.YtmpagacbmoeipaaDoorHaE
import Derived.Test.YtmpagacbmoeipaaDoorShelf
import Derived.Lib.BitFns
import Derived.Deep.RegionHeld3
import Derived.Laws.AppendOwnNone
import Derived.Laws.MakeOwn
namespace Go.Proofs.YtmpagacbmoeipaaDoor

open Go.RowKit

set_option linter.unusedVariables false

set_option linter.unusedSimpArgs false

/-- The hash of two roots. -/
def tw (a b : Nat → Int) : Nat → Int := shaV KW HW (cat a b) 64

theorem tw_bd (a b : Nat → Int) (j : Nat) : 0 ≤ tw a b j ∧ tw a b j < 256 := shaV_bd _ _ _ _ _

theorem tw_congr {a a' b b' : Nat → Int} (ha : ∀ j, j < 32 → a j = a' j) (hb : ∀ j, j < 32 → b j = b' j) (j : Nat) (hj : j < 32) : tw a b j = tw a' b' j :=
  shaV_congr (fun i hi => by
    unfold cat
    by_cases h : i < 32
    · rw [if_pos h, if_pos h, ha i h]
    · rw [if_neg h, if_neg h, hb _ (by omega)]) j hj

/-- The zero roots. -/
def zr : Nat → Nat → Int
  | 0 => fun _ => 0
  | n + 1 => tw (zr n) (zr n)

theorem zr_bd (n j : Nat) : 0 ≤ zr n j ∧ zr n j < 256 := by
  cases n with
  | zero => unfold zr; omega
  | succ n => exact tw_bd _ _ _

/-- The root number i of a flat row. -/
def rt32 (f : Nat → Int) (i : Nat) : Nat → Int := fun j => f (32 * i + j)

/-- The node number i of the level d of a tree over the first len roots of f. -/
def nd (f : Nat → Int) (len : Nat) : Nat → Nat → Nat → Int
  | 0, i => if i < len then rt32 f i else fun _ => 0
  | d + 1, i => tw (nd f len d (2 * i)) (nd f len d (2 * i + 1))

def ByB (f : Nat → Int) (n : Nat) : Prop := ∀ q, q < n → 0 ≤ f q ∧ f q < 256

theorem nd_bd {f : Nat → Int} {len : Nat} (hf : ByB f (32 * len)) (d i j : Nat) (hj : j < 32) : 0 ≤ nd f len d i j ∧ nd f len d i j < 256 := by
  cases d with
  | zero =>
    unfold nd
    by_cases h : i < len
    · rw [if_pos h]; exact hf _ (by omega)
    · rw [if_neg h]; omega
  | succ d => exact tw_bd _ _ _

/-- How many nodes of a level stand over roots. -/
def up (len : Nat) : Nat → Nat
  | 0 => len
  | d + 1 => (up len d + 1) / 2

theorem up_le (len d : Nat) : up len d ≤ len := by
  induction d with
  | zero => exact Nat.le_refl _
  | succ d ih => show (up len d + 1) / 2 ≤ len; omega

/-- Nodes that stand over nothing are zero roots. -/
theorem nd_zero (f : Nat → Int) (len : Nat) : ∀ d i, up len d ≤ i → nd f len d i = zr d
  | 0, i, h => by
    unfold nd zr
    rw [if_neg (by show ¬ i < len; exact Nat.not_lt.2 h)]
  | d + 1, i, h => by
    have h : (up len d + 1) / 2 ≤ i := h
    show tw _ _ = tw _ _
    rw [nd_zero f len d (2 * i) (by omega), nd_zero f len d (2 * i + 1) (by omega)]

/-- The depth of a limit. -/
def dpt (n : Nat) : Nat := if n = 0 then 0 else Lib.bitLen (n - 1)

theorem bitLen_lt (x : Nat) (hx : x < 2 ^ 64) : x < 2 ^ Lib.bitLen x := by
  induction x using Nat.strongRecOn with
  | _ x ih =>
    by_cases h0 : x = 0
    · subst h0; exact Nat.two_pow_pos _
    · rw [Lib.bitLen_half x h0 hx, Nat.add_comm, Nat.pow_succ]
      have := ih (x / 2) (by omega) (by omega)
      omega

theorem bitLen_ge (x k : Nat) (hx : x < 2 ^ 64) (h : k < Lib.bitLen x) : 2 ^ k ≤ x := by
  induction x using Nat.strongRecOn generalizing k with
  | _ x ih =>
    by_cases h0 : x = 0
    · subst h0
      have : Lib.bitLen 0 = 0 := by decide
      omega
    · rw [Lib.bitLen_half x h0 hx] at h
      cases k with
      | zero => simp; omega
      | succ k =>
        have := ih (x / 2) (by omega) k (by omega) (by omega)
        rw [Nat.pow_succ]
        omega

theorem dpt_ge (n : Nat) (hn : n ≤ 2 ^ 40) : n ≤ 2 ^ dpt n := by
  unfold dpt
  by_cases h : n = 0
  · rw [h]; exact Nat.zero_le _
  · rw [if_neg h]
    have := bitLen_lt (n - 1) (by omega)
    omega

theorem dpt_lt (n k : Nat) (hn : n ≤ 2 ^ 40) (hk : k < dpt n) : 2 ^ k < n := by
  unfold dpt at hk
  by_cases h : n = 0
  · rw [if_pos h] at hk; omega
  · rw [if_neg h] at hk
    have := bitLen_ge (n - 1) k (by omega) hk
    omega

theorem dpt_le (n : Nat) (hn : n ≤ 2 ^ 40) : dpt n ≤ 40 := by
  by_cases h : dpt n ≤ 40
  · exact h
  · have := dpt_lt n 40 hn (by omega)
    omega

end Go.Proofs.YtmpagacbmoeipaaDoor

namespace Go.Proofs.YtmpagacbmoeipaaDoor

open Go.RowKit

set_option linter.unusedVariables false

set_option linter.unusedSimpArgs false

/-- An element's address, whole. -/
def ix22 (x i : Value) : Sem Value := Instr.indexAt 32 x i

theorem ix22_eq (x i : Value) : Instr.indexAt 32 x i = ix22 x i := rfl

theorem size_root (w : World) : (sizeOf 24).run Tryd.prog w = .ok 32 w := by
  have hi : (Tryd.prog.info? 24).map (·.size) = some 32 := by kernel_rfl
  cases hq : Tryd.prog.info? 24 with
  | none => simp [hq] at hi
  | some i => simp [hq] at hi; simp [sizeOf, typeInfo, hq, hi]

theorem ix22_run (w : World) (b off len cap i : Nat) (h : i < len) : (ix22 (.slice (some ⟨b, off, none⟩) len cap) (.int .i64 i)).run Tryd.prog w = .ok (.pointer (some ⟨b, off + 32 * i, none⟩)) w := by
  unfold ix22 Instr.indexAt
  have h1 : (0 : Int) ≤ (i : Int) ∧ (i : Int) < (len : Int) := by omega
  simp only [asIntOf, Sem.run_bind, Sem.run_pure, Result.andThen_ok, run_underlying Tryd.underlying32, if_pos h1, size_root, Addr.add_mid, Int.toNat_natCast]
  rw [Nat.mul_comm]

theorem lv24_mid {w : World} {b o : Nat} {c : Nat → Int} (h : ∀ j, j < 32 → w.cell? ⟨b, o + j, none⟩ = some (.int .u8 (c j))) : (lv24 ⟨b, o, none⟩).run Tryd.prog w = .ok (.agg (vs .u8 32 c)) w := by
  have hr : w.rangeAt b o ((List.range 32).map fun i => Value.int .u8 (c i)) := by
    intro j v hj
    have hlt : j < 32 := by
      have := (List.getElem?_eq_some_iff.1 hj).1
      simpa using this
    rw [h j hlt]
    simp [hlt] at hj
    rw [hj]
  exact loadAt_var (run_loadAt_mid w b o 24 _ _ hr Tryd.underlying24 rfl (by rw [List.length_map, List.length_range]; kernel_rfl))

/-- Values laid into an array from a place on. -/
def putL (C : Array Value) : Nat → List Value → Array Value
  | _, [] => C
  | o, v :: r => putL (C.setIfInBounds o v) (o + 1) r

theorem putL_size (o : Nat) (l : List Value) : ∀ C, (putL C o l).size = C.size := by
  induction l generalizing o with
  | nil => intro C; rfl
  | cons v r ih => intro C; show (putL _ _ r).size = _; rw [ih]; simp

theorem putL_get (l : List Value) : ∀ (C : Array Value) (o j : Nat), o + l.length ≤ C.size → (putL C o l)[j]? = if o ≤ j ∧ j < o + l.length then l[j - o]? else C[j]? := by
  induction l with
  | nil => intro C o j h; rw [if_neg (by simp)]; rfl
  | cons v r ih =>
    intro C o j h
    rw [List.length_cons] at h
    show (putL _ _ r)[j]? = _
    rw [ih _ _ _ (by simp; omega), List.length_cons]
    by_cases h1 : o + 1 ≤ j ∧ j < o + 1 + r.length
    · rw [if_pos h1, if_pos (by omega), show j - o = (j - (o + 1)) + 1 by omega, List.getElem?_cons_succ]
    · rw [if_neg h1, Array.getElem?_setIfInBounds]
      by_cases h2 : o = j
      · subst h2
        rw [if_pos rfl, if_pos (by omega), if_pos (by omega), Nat.sub_self]
        rfl
      · rw [if_neg h2, if_neg (by omega)]

theorem setCells_row {b : Nat} {t : TypeId} (l : List Value) : ∀ {w : World} {C : Array Value} (o : Nat), w.heap[b]? = some (.cells C t) → (w.setCells b o l).heap[b]? = some (.cells (putL C o l) t) := by
  induction l with
  | nil => intro w C o h; exact h
  | cons v r ih => intro w C o h; exact ih (o + 1) (row_set h o v)

theorem setCells_kept {b : Nat} {w0 : World} (l : List Value) : ∀ {w : World} (o : Nat), Kept b w0 w → Kept b w0 (w.setCells b o l) := by
  induction l with
  | nil => intro w o h; exact h
  | cons v r ih => intro w o h; exact ih (o + 1) (h.setCell o v)

theorem there_row {w : World} {b : Nat} {C : Array Value} {t : TypeId} (h : w.heap[b]? = some (.cells C t)) (o n : Nat) (hn : o + n ≤ C.size) : w.there b o n := by
  intro j hj
  refine ⟨?_, row_frozen h _⟩
  rw [row_cell h, Array.getElem?_eq_getElem (by omega)]
  rfl

/-- A root stored in the middle of a block. -/
theorem sv24_mid {w : World} {b : Nat} {C : Array Value} {t : TypeId} (h : w.heap[b]? = some (.cells C t)) (o : Nat) (c : Nat → Int) (hn : o + 32 ≤ C.size) :
    (sv24 ⟨b, o, none⟩ (.agg (vs .u8 32 c))).run Tryd.prog w = .ok () (w.setCells b o (bl c 32)) := by
  have h1 := run_storeVar_mid (P := Tryd.prog) w b o 24 (vs .u8 32 c) (by rw [vs_size]; exact there_row h o 32 hn) (by rw [vs_size]; kernel_rfl) (vs_one _ _ _)
  rw [vs_list] at h1
  exact h1

/-- The block of a row. -/
def rwA (v : Value) (d : Int) (z : Nat → Int) (zd : Int) : Array Value := #[v, .int .i64 d] ++ vs .u8 32 z ++ #[.int .i64 zd]

theorem rwA_size (v : Value) (d : Int) (z : Nat → Int) (zd : Int) : (rwA v d z zd).size = 35 := by simp [rwA, vs_size]

theorem rwA_0 (v : Value) (d : Int) (z : Nat → Int) (zd : Int) : (rwA v d z zd)[0]? = some v := by
  unfold rwA
  rw [Array.getElem?_append_left (by simp [vs_size]), Array.getElem?_append_left (by simp)]
  rfl

theorem rwA_1 (v : Value) (d : Int) (z : Nat → Int) (zd : Int) : (rwA v d z zd)[1]? = some (.int .i64 d) := by
  unfold rwA
  rw [Array.getElem?_append_left (by simp [vs_size]), Array.getElem?_append_left (by simp)]
  rfl

theorem rwA_z (v : Value) (d : Int) (z : Nat → Int) (zd : Int) (j : Nat) (h : j < 32) : (rwA v d z zd)[2 + j]? = some (.int .u8 (z j)) := by
  unfold rwA
  rw [Array.getElem?_append_left (by simp [vs_size]; omega), Array.getElem?_append_right (by simp)]
  simp [vs_get _ _ _ _ h]

theorem rwA_34 (v : Value) (d : Int) (z : Nat → Int) (zd : Int) : (rwA v d z zd)[34]? = some (.int .i64 zd) := by
  unfold rwA
  rw [Array.getElem?_append_right (by simp [vs_size])]
  simp [vs_size]

theorem rwA_ext {v : Value} {d : Int} {z : Nat → Int} {zd : Int} (C : Array Value) (hc : C.size = 35) (h0 : C[0]? = some v) (h1 : C[1]? = some (.int .i64 d)) (hz : ∀ j, j < 32 → C[2 + j]? = some (.int .u8 (z j))) (h34 : C[34]? = some (.int .i64 zd)) : C = rwA v d z zd := by
  apply Array.ext_getElem?
  intro i
  by_cases e : i < 35
  · rcases (by omega : i = 0 ∨ i = 1 ∨ i = 34 ∨ (2 ≤ i ∧ i < 34)) with rfl | rfl | rfl | ⟨e1, e2⟩
    · rw [h0, rwA_0]
    · rw [h1, rwA_1]
    · rw [h34, rwA_34]
    · have := hz (i - 2) (by omega)
      have k := rwA_z v d z zd (i - 2) (by omega)
      rw [show 2 + (i - 2) = i by omega] at this k
      rw [this, k]
  · rw [Array.getElem?_eq_none (by omega), Array.getElem?_eq_none (by rw [rwA_size]; omega)]

theorem rwA_set0 (v v' : Value) (d : Int) (z : Nat → Int) (zd : Int) : (rwA v d z zd).setIfInBounds 0 v' = rwA v' d z zd := by
  refine rwA_ext _ (by simp [rwA_size]) ?_ ?_ (fun j hj => ?_) ?_
  · rw [Array.getElem?_setIfInBounds, if_pos rfl, if_pos (by rw [rwA_size]; omega)]
  · rw [Array.getElem?_setIfInBounds, if_neg (by omega), rwA_1]
  · rw [Array.getElem?_setIfInBounds, if_neg (by omega), rwA_z _ _ _ _ _ hj]
  · rw [Array.getElem?_setIfInBounds, if_neg (by omega), rwA_34]

theorem rwA_set1 (v : Value) (d d' : Int) (z : Nat → Int) (zd : Int) : (rwA v d z zd).setIfInBounds 1 (.int .i64 d') = rwA v d' z zd := by
  refine rwA_ext _ (by simp [rwA_size]) ?_ ?_ (fun j hj => ?_) ?_
  · rw [Array.getElem?_setIfInBounds, if_neg (by omega), rwA_0]
  · rw [Array.getElem?_setIfInBounds, if_pos rfl, if_pos (by rw [rwA_size]; omega)]
  · rw [Array.getElem?_setIfInBounds, if_neg (by omega), rwA_z _ _ _ _ _ hj]
  · rw [Array.getElem?_setIfInBounds, if_neg (by omega), rwA_34]

theorem rwA_set34 (v : Value) (d : Int) (z : Nat → Int) (zd zd' : Int) : (rwA v d z zd).setIfInBounds 34 (.int .i64 zd') = rwA v d z zd' := by
  refine rwA_ext _ (by simp [rwA_size]) ?_ ?_ (fun j hj => ?_) ?_
  · rw [Array.getElem?_setIfInBounds, if_neg (by omega), rwA_0]
  · rw [Array.getElem?_setIfInBounds, if_neg (by omega), rwA_1]
  · rw [Array.getElem?_setIfInBounds, if_neg (by omega), rwA_z _ _ _ _ _ hj]
  · rw [Array.getElem?_setIfInBounds, if_pos rfl, if_pos (by rw [rwA_size]; omega)]

theorem rwA_put (v : Value) (d : Int) (z c : Nat → Int) (zd : Int) : putL (rwA v d z zd) 2 (bl c 32) = rwA v d c zd := by
  have hs : 2 + (bl c 32).length ≤ (rwA v d z zd).size := by rw [bl_len, rwA_size]; omega
  refine rwA_ext _ (by rw [putL_size, rwA_size]) ?_ ?_ (fun j hj => ?_) ?_
  · rw [putL_get _ _ _ _ hs, if_neg (by omega), rwA_0]
  · rw [putL_get _ _ _ _ hs, if_neg (by omega), rwA_1]
  · rw [putL_get _ _ _ _ hs, bl_len, if_pos (by omega), show 2 + j - 2 = j by omega, bl_at _ _ _ hj]
  · rw [putL_get _ _ _ _ hs, bl_len, if_neg (by omega), rwA_34]

/-- Roots in a row, whatever slice it is. -/
def Rts (w : World) (a : Option Addr) (len cap : Nat) (f : Nat → Int) : Prop :=
  (a = none ∧ len = 0 ∧ cap = 0) ∨ (∃ x, a = some x ∧ len = 0) ∨ ∃ b off, a = some ⟨b, off, none⟩ ∧ len ≤ cap ∧ b < w.heap.size ∧ ∀ j, j < 32 * len → w.cell? ⟨b, off + j, none⟩ = some (.int .u8 (f j))

theorem Rts.below {w w' : World} {a : Option Addr} {len cap : Nat} {f : Nat → Int} (h : Rts w a len cap f) (hb : Below w.heap.size w w') : Rts w' a len cap f := by
  rcases h with h | h | ⟨b, off, h1, h2, h3, h4⟩
  · exact .inl h
  · exact .inr (.inl h)
  · exact .inr (.inr ⟨b, off, h1, h2, Nat.lt_of_lt_of_le h3 hb.size, fun j hj => (below_cell hb h3).trans (h4 j hj)⟩)

/-- A root of a row: its address, and what lies there. -/
theorem Rts.at {w : World} {a : Option Addr} {len cap : Nat} {f : Nat → Int} (h : Rts w a len cap f) (i : Nat) (hi : i < len) :
    ∃ b o, b < w.heap.size ∧ (∀ W : World, (ix22 (.slice a len cap) (.int .i64 i)).run Tryd.prog W = .ok (.pointer (some ⟨b, o, none⟩)) W) ∧ ∀ j, j < 32 → w.cell? ⟨b, o + j, none⟩ = some (.int .u8 (rt32 f i j)) := by
  rcases h with ⟨_, h, _⟩ | ⟨_, _, h⟩ | ⟨b, off, rfl, h2, h3, h4⟩
  · omega
  · omega
  · exact ⟨b, off + 32 * i, h3, fun W => ix22_run W b off len cap i hi, fun j hj => by rw [Nat.add_assoc]; exact h4 _ (by omega)⟩

end Go.Proofs.YtmpagacbmoeipaaDoor

namespace Go.Proofs.YtmpagacbmoeipaaDoor

open Go.RowKit

set_option linter.unusedVariables false

set_option linter.unusedSimpArgs false

attribute [local go_sem ↓] sv24_eq lv24_eq ix22_eq

/-- The two tables of package sha. -/
def Sh (w : World) : Prop := Tab w 0 8 HW ∧ Tab w 1 64 KW

theorem Sh.below {w w' : World} (h : Sh w) (hb : Below w.heap.size w w') : Sh w' := ⟨h.1.below hb, h.2.below hb⟩

theorem Sh.kept {w w' : World} {g : Nat} (h : Sh w) (hb : Kept g w w') (h0 : 0 ≠ g) (h1 : 1 ≠ g) : Sh w' := ⟨hb.tab h.1 h0, hb.tab h.2 h1⟩

theorem two_tw (a b : Nat → Int) (w : World) (hS : Sh w) (ha : ∀ j, j < 32 → 0 ≤ a j ∧ a j < 256) (hb : ∀ j, j < 32 → 0 ≤ b j ∧ b j < 256) :
    Calls Tryd.prog 29 #[.agg (vs .u8 32 a), .agg (vs .u8 32 b)] w fun e w' => e = .returned (.agg (vs .u8 32 (tw a b))) ∧ Below w.heap.size w w' :=
  two_any KW HW a b w hS.1 hS.2 HW_bd ha hb

theorem Kept.setNew {g k : Nat} {a b : World} (h : Kept g a b) (hk : a.heap.size ≤ k) (c : Array Value) : Kept g a (b.setRow k c) :=
  ⟨h.os, h.tape, h.output, by have := h.size; simpa using this, fun i hi hn => (setRow_other b k i c (by omega)).trans (h.block i hi hn)⟩

/-- A row's block: its roots, its depth, the zero root of a depth not below. -/
def zdOf (w : World) (g : Nat) : Nat := match w.cell? ⟨g, 34, none⟩ with | some (.int _ z) => z.toNat | _ => 0

set_option maxRecDepth 20000 in
set_option maxHeartbeats 1000000 in
theorem at_out (g : Nat) (a : Option Addr) (len cap d zd i : Nat) (w : World) (hS : Sh w) (hg : w.heap[g]? = some (.cells (rwA (.slice a len cap) d (zr zd) zd) 103)) (h0 : 0 ≠ g) (h1 : 1 ≠ g)
    (hi : len ≤ i) (hm : i ≤ 9223372036854775807) (hz : zd ≤ d) (hd : d ≤ 1000) :
    Calls Tryd.prog 54 #[.pointer (some ⟨g, 0, none⟩), .int .i64 i] w fun e w' => e = .returned (.agg (vs .u8 32 (zr d))) ∧ Kept g w w' ∧ w'.heap[g]? = some (.cells (rwA (.slice a len cap) d (zr d) d) 103) := by
  have hgl : g < w.heap.size := (Array.getElem?_eq_some_iff.1 hg).1
  have c0 := row_cell hg 0
  rw [rwA_0] at c0
  have HG := hid hg
  have HS := hid hS
  have hb : decide (i < len) = false := by simp; omega
  clear hg hS
  go_enter Tryd.func54, Tryd.ntmps54
  go_wp2
  change Code.wp _ _ _ _ (w.alloc (.cells (vs .u8 32 fun _ => 0) 24))
  go_loopw [46] (fun _ wr => ∃ z : Nat, z ≤ d ∧ Kept g w wr ∧ w.heap.size < wr.heap.size ∧ wr.heap[w.heap.size]? = some (.cells (vs .u8 32 fun _ => 0) 24) ∧ wr.heap[g]? = some (.cells (rwA (.slice a len cap) d (zr z) z) 103)) (fun _ wr => d - zdOf wr g)
  case atStart =>
    refine ⟨zd, hz, Kept.ofBelow ((Below.refl _ _).alloc (Nat.le_refl _) _), by simp, heap_new rfl, (heap_old hgl).trans HG.out⟩
  case round =>
    clear HG c0
    obtain ⟨z, hzd, hkp, hsz, r0, rg⟩ := hrel
    have c1 := row_cell rg 1
    rw [rwA_1] at c1
    have c34 := row_cell rg 34
    rw [rwA_34] at c34
    have HKP := hid hkp
    have R0 := hid r0
    have RG := hid rg
    clear hkp r0 rg
    by_cases hlt : z < d
    · have hb2 : decide (z < d) = true := by simp; omega
      go_wp2
      go_region
      go_upto_region 4 with fail
      have l2 := lv24_mid (w := wr.drew.drew) (b := g) (o := 2) (c := zr z) (fun j hj => (row_cell (w := wr.drew.drew) RG.out (2 + j)).trans (rwA_z _ _ _ _ j hj))
      have hs2 : Sh wr.drew.drew := (HS.out.kept HKP.out.drew.drew h0 h1)
      have hgl2 : g < wr.drew.drew.heap.size := Nat.lt_of_lt_of_le hgl HKP.out.size
      have HS2 := hid hs2
      have HZ2 := hid hgl2
      clear hs2 hgl2
      go_region_with (go_at_call 29; refine (two_tw (zr z) (zr z) _ HS2.out (fun j _ => zr_bd z j) (fun j _ => zr_bd z j)).mono ?_; rintro e w1 ⟨rfl, hb1⟩; have s2 := sv24_mid ((hb1.block g HZ2.out).trans RG.out) 2 (tw (zr z) (zr z)) (by rw [rwA_size]; omega))
      all_goals
        have rg1 : w1.heap[g]? = some (.cells (rwA (.slice a len cap) d (zr z) z) 103) := (hb1.block g HZ2.out).trans RG.out
        have rg2 := setCells_row (bl (tw (zr z) (zr z)) 32) 2 rg1
        rw [rwA_put] at rg2
        have hk1 : Kept g w w1 := (HKP.out.drew.drew).trans (Kept.ofBelow hb1)
        have hk2 := setCells_kept (bl (tw (zr z) (zr z)) 32) 2 hk1
        have r01 : (w1.setCells g 2 (bl (tw (zr z) (zr z)) 32)).heap[w.heap.size]? = some (.cells (vs .u8 32 fun _ => 0) 24) := ((setCells_kept (bl (tw (zr z) (zr z)) 32) 2 (Kept.ofBelow hb1)).block w.heap.size hsz (by omega)).trans R0.out
        have hz2 : w.heap.size < (w1.setCells g 2 (bl (tw (zr z) (zr z)) 32)).heap.size := Nat.lt_of_lt_of_le hsz (setCells_kept (bl (tw (zr z) (zr z)) 32) 2 (Kept.ofBelow (g := g) hb1)).size
        obtain ⟨W2, hW2⟩ : ∃ W, w1.setCells g 2 (bl (tw (zr z) (zr z)) 32) = W := ⟨_, rfl⟩
        rw [hW2] at rg2 hk2 r01 hz2 ⊢
        have d34 := row_cell rg2 34
        rw [rwA_34] at d34
        have f34 := row_frozen rg2 34
        have HRG2 := hid rg2
        have HK2 := hid hk2
        have HR2 := hid r01
        clear rg1 rg2 hk1 hk2 r01 l2 s2 hW2
        go_wp2
        go_roundw
        case rel =>
          refine ⟨z + 1, by omega, HK2.out.setCell 34 _, by rw [size_s]; exact hz2, (heap_set_other (by omega)).trans HR2.out, ?_⟩
          refine (row_set HRG2.out 34 _).trans ?_
          rw [rwA_set34]
          rfl
        case measure =>
          have e1 : zdOf (W2.setCell ⟨g, 34, none⟩ (.int .i64 ((z : Int) + 1))) g = z + 1 := by
            unfold zdOf
            rw [row_cell (row_set HRG2.out 34 _), rwA_set34, rwA_34]
            show ((z : Int) + 1).toNat = z + 1
            omega
          have e2 : zdOf wr g = z := by
            unfold zdOf
            rw [c34]
            show ((z : Int)).toNat = z
            omega
          rw [e1, e2]
          omega
    · have ez : z = d := by omega
      subst ez
      have hb2 : decide (z < z) = false := by simp
      go_wp2
      go_region
      go_upto_region 6 with fail
      have l2 := lv24_mid (w := wr.drew) (b := g) (o := 2) (c := zr z) (fun j hj => (row_cell (w := wr.drew) RG.out (2 + j)).trans (rwA_z _ _ _ _ j hj))
      have s2 := sv24_run (w := wr.drew) R0.out (zr z)
      go_wp2
      refine ret24 4 w.heap.size _ 24 rfl rfl rfl (setRow_at (w := wr.drew) R0.out) ⟨rfl, ?_, ?_⟩
      · exact HKP.out.drew.setNew (Nat.le_refl _) _
      · exact (setRow_other _ _ _ _ (by omega)).trans RG.out

end Go.Proofs.YtmpagacbmoeipaaDoor

namespace Go.Proofs.YtmpagacbmoeipaaDoor

open Go.RowKit

set_option linter.unusedVariables false

set_option linter.unusedSimpArgs false

attribute [local go_sem ↓] sv24_eq lv24_eq ix22_eq

set_option maxRecDepth 20000 in
set_option maxHeartbeats 1000000 in
theorem at_in (g : Nat) (a : Option Addr) (len cap i : Nat) (d zd : Int) (z f : Nat → Int) (w : World) (hg : w.heap[g]? = some (.cells (rwA (.slice a len cap) d z zd) 103)) (hr : Rts w a len cap f) (hi : i < len) (hm : i ≤ 9223372036854775807) :
    Calls Tryd.prog 54 #[.pointer (some ⟨g, 0, none⟩), .int .i64 i] w fun e w' => e = .returned (.agg (vs .u8 32 (rt32 f i))) ∧ Below w.heap.size w w' := by
  obtain ⟨b, o, hb, hx, hc⟩ := hr.at i hi
  have hgl : g < w.heap.size := (Array.getElem?_eq_some_iff.1 hg).1
  have c0 := row_cell hg 0
  rw [rwA_0] at c0
  have hbt : decide (i < len) = true := by simp; omega
  have HG := hid hg
  have HC := hid hc
  clear hg hc hr
  go_enter Tryd.func54, Tryd.ntmps54
  go_upto_region 2 with fail
  change Code.wp _ _ _ _ (w.alloc (.cells (vs .u8 32 fun _ => 0) 24))
  obtain ⟨W, hW⟩ : ∃ W, w.alloc (.cells (vs .u8 32 fun _ => 0) 24) = W := ⟨_, rfl⟩
  have hB : Below w.heap.size w W := by rw [← hW]; exact (Below.refl _ _).alloc (Nat.le_refl _) _
  have r0 : W.heap[w.heap.size]? = some (.cells (vs .u8 32 fun _ => 0) 24) := by rw [← hW]; exact heap_new rfl
  rw [hW]
  have c1 : W.cell? ⟨g, 0, none⟩ = some (.slice a len cap) := (below_cell hB hgl).trans c0
  have l2 := lv24_mid (w := W) (b := b) (o := o) (c := rt32 f i) (fun j hj => (below_cell hB hb).trans (HC.out j hj))
  have s2 := sv24_run r0 (rt32 f i)
  have HB := hid hB
  have R0 := hid r0
  clear hB r0 hW c0
  go_wp2
  refine ret24 4 w.heap.size _ 24 rfl rfl rfl (setRow_at R0.out) ⟨rfl, ?_⟩
  exact below_row HB.out (Nat.le_refl _) _

/-- The root at a place of a row. -/
def gt32 (f : Nat → Int) (len d i : Nat) : Nat → Int := if i < len then rt32 f i else zr d

theorem gt32_bd {f : Nat → Int} {len : Nat} (hf : ByB f (32 * len)) (d i : Nat) : ∀ j, j < 32 → 0 ≤ gt32 f len d i j ∧ gt32 f len d i j < 256 := by
  intro j hj
  unfold gt32
  by_cases h : i < len
  · rw [if_pos h]; exact hf _ (by omega)
  · rw [if_neg h]; exact zr_bd _ _

theorem at_any (g : Nat) (a : Option Addr) (len cap d zd i : Nat) (f : Nat → Int) (w : World) (hS : Sh w) (hg : w.heap[g]? = some (.cells (rwA (.slice a len cap) d (zr zd) zd) 103)) (h0 : 0 ≠ g) (h1 : 1 ≠ g)
    (hr : Rts w a len cap f) (hm : i ≤ 9223372036854775807) (hz : zd ≤ d) (hd : d ≤ 1000) :
    Calls Tryd.prog 54 #[.pointer (some ⟨g, 0, none⟩), .int .i64 i] w fun e w' => e = .returned (.agg (vs .u8 32 (gt32 f len d i))) ∧ Kept g w w' ∧ ∃ z, z ≤ d ∧ w'.heap[g]? = some (.cells (rwA (.slice a len cap) d (zr z) z) 103) := by
  by_cases hi : i < len
  · refine (at_in g a len cap i d zd (zr zd) f w hg hr hi hm).mono ?_
    rintro e w' ⟨rfl, hb⟩
    refine ⟨by unfold gt32; rw [if_pos hi], Kept.ofBelow hb, zd, hz, (hb.block g (Array.getElem?_eq_some_iff.1 hg).1).trans hg⟩
  · refine (at_out g a len cap d zd i w hS hg h0 h1 (by omega) hm hz hd).mono ?_
    rintro e w' ⟨rfl, hk, hg'⟩
    exact ⟨by unfold gt32; rw [if_neg hi], hk, d, Nat.le_refl _, hg'⟩

/-- Slices of roots, whole. -/
def slr (x : Value) (lo hi : Option Value) : Sem Value := Instr.sliceAt 32 x lo hi none

theorem slr_eq (x : Value) (lo hi : Option Value) : Instr.sliceAt 32 x lo hi none = slr x lo hi := rfl

def ofs (a : Option Addr) (cap lo : Nat) : Option Addr := if cap = lo then a else a.map (·.add (lo * 32))

theorem slr_run (W : World) (ao : Option Addr) (len cap lo hi : Nat) (l h : Option Value) (hl : l = some (.int .i64 lo) ∨ l = none ∧ lo = 0) (hh : h = some (.int .i64 hi) ∨ h = none ∧ hi = len) (h1 : lo ≤ hi) (h2 : hi ≤ len) (h3 : len ≤ cap) :
    (slr (.slice ao len cap) l h).run Tryd.prog W = .ok (.slice (ofs ao cap lo) (hi - lo) (cap - lo)) W := by
  have b1 : ∀ (k n : Nat) (c : BoundsCode), k ≤ n → (Instr.sliceBound (.int .i64 (k : Int)) n c).run Tryd.prog W = .ok k W := by
    intro k n c hk
    have h0 : (k : Int) ≤ (n : Int) := by omega
    simp [Instr.sliceBound, asIntOf, h0]
  have c1 := fun c => b1 lo hi c h1
  have c2 := fun c => b1 hi cap c (by omega)
  unfold slr Instr.sliceAt ofs
  rcases hl with rfl | ⟨rfl, rfl⟩ <;> rcases hh with rfl | ⟨rfl, rfl⟩ <;>
    simp [run_underlying Tryd.underlying32, Instr.slice, Instr.sliceBounds, c1, c2, size_root]

theorem Rts.part {w : World} {a : Option Addr} {len cap : Nat} {f : Nat → Int} (h : Rts w a len cap f) (lo hi : Nat) (h1 : lo ≤ hi) (h2 : hi ≤ len) :
    Rts w (ofs a cap lo) (hi - lo) (cap - lo) (fun q => f (32 * lo + q)) := by
  unfold ofs
  rcases h with ⟨rfl, rfl, rfl⟩ | ⟨x, rfl, rfl⟩ | ⟨b, off, rfl, h3, h4, h5⟩
  · exact .inl ⟨by simp, by omega, by omega⟩
  · by_cases hc : cap = lo
    · rw [if_pos hc]; exact .inr (.inl ⟨x, rfl, by omega⟩)
    · rw [if_neg hc]; exact .inr (.inl ⟨x.add (lo * 32), rfl, by omega⟩)
  · by_cases hc : cap = lo
    · rw [if_pos hc]; exact .inr (.inl ⟨_, rfl, by omega⟩)
    · rw [if_neg hc]
      refine .inr (.inr ⟨b, off + lo * 32, by rw [Option.map_some, Addr.add_mid], by omega, h4, fun j hj => ?_⟩)
      rw [show off + lo * 32 + j = off + (32 * lo + j) by omega]
      exact h5 _ (by omega)

/-- The roots of a row's own, from block B on, not in block g. -/
def RowR (w : World) (B g : Nat) (a : Option Addr) (len cap : Nat) (f : Nat → Int) : Prop :=
  len ≤ cap ∧ (len = 0 ∧ (a = none → cap = 0) ∨ ∃ b C, a = some ⟨b, 0, none⟩ ∧ B ≤ b ∧ b ≠ g ∧ w.heap[b]? = some (.cells C 24) ∧ 32 * len ≤ C.size ∧ ∀ q, q < 32 * len → C[q]? = some (.int .u8 (f q)))

theorem RowR.rts {w : World} {B g : Nat} {a : Option Addr} {len cap : Nat} {f : Nat → Int} (h : RowR w B g a len cap f) : Rts w a len cap f := by
  rcases h with ⟨hc, ⟨h1, h2⟩ | ⟨b, C, rfl, h2, h3, h4, h5, h6⟩⟩
  · cases a with
    | none => exact .inl ⟨rfl, h1, h2 rfl⟩
    | some x => exact .inr (.inl ⟨x, rfl, h1⟩)
  · exact .inr (.inr ⟨b, 0, rfl, hc, (Array.getElem?_eq_some_iff.1 h4).1, fun j hj => by rw [Nat.zero_add, row_cell h4]; exact h6 j hj⟩)

theorem RowR.kept {w w' : World} {B g : Nat} {a : Option Addr} {len cap : Nat} {f : Nat → Int} (h : RowR w B g a len cap f) (hk : Kept g w w') : RowR w' B g a len cap f := by
  rcases h with ⟨hc, h | ⟨b, C, h1, h2, h3, h4, h5, h6⟩⟩
  · exact ⟨hc, .inl h⟩
  · exact ⟨hc, .inr ⟨b, C, h1, h2, h3, (hk.block b (Array.getElem?_eq_some_iff.1 h4).1 h3).trans h4, h5, h6⟩⟩

theorem RowR.below {w w' : World} {B g : Nat} {a : Option Addr} {len cap : Nat} {f : Nat → Int} (h : RowR w B g a len cap f) (hk : Below w.heap.size w w') : RowR w' B g a len cap f := h.kept (Kept.ofBelow hk)

theorem RowR.cut {w : World} {B g : Nat} {a : Option Addr} {len cap n : Nat} {f : Nat → Int} (h : RowR w B g a len cap f) (hn : n ≤ len) : RowR w B g a n cap f := by
  rcases h with ⟨hc, ⟨h1, h2⟩ | ⟨b, C, h1, h2, h3, h4, h5, h6⟩⟩
  · exact ⟨by omega, .inl ⟨by omega, h2⟩⟩
  · exact ⟨by omega, .inr ⟨b, C, h1, h2, h3, h4, by omega, fun q hq => h6 q (by omega)⟩⟩

theorem RowR.congr {w : World} {B g : Nat} {a : Option Addr} {len cap : Nat} {f f' : Nat → Int} (h : RowR w B g a len cap f) (hf : ∀ q, q < 32 * len → f q = f' q) : RowR w B g a len cap f' := by
  rcases h with ⟨hc, h | ⟨b, C, h1, h2, h3, h4, h5, h6⟩⟩
  · exact ⟨hc, .inl h⟩
  · exact ⟨hc, .inr ⟨b, C, h1, h2, h3, h4, h5, fun q hq => by rw [h6 q hq, hf q hq]⟩⟩

theorem size_cells (b : Nat) (l : List Value) : ∀ (o : Nat) (w : World), (w.setCells b o l).heap.size = w.heap.size := by
  induction l with
  | nil => intro o w; rfl
  | cons v r ih => intro o w; show ((w.setCell _ v).setCells b (o + 1) r).heap.size = _; rw [ih, size_s]

/-- A root stored in the row. -/
theorem RowR.store {w : World} {B g : Nat} {a : Option Addr} {len cap i : Nat} {f : Nat → Int} (h : RowR w B g a len cap f) (hi : i < len) (c : Nat → Int) (hBw : B ≤ w.heap.size) :
    ∃ b w', (∀ W : World, (ix22 (.slice a len cap) (.int .i64 i)).run Tryd.prog W = .ok (.pointer (some ⟨b, 32 * i, none⟩)) W) ∧ (sv24 ⟨b, 32 * i, none⟩ (.agg (vs .u8 32 c))).run Tryd.prog w = .ok () w' ∧ Below B w w' ∧ RowR w' B g a len cap (over f c (32 * i) 32) ∧ w'.heap[g]? = w.heap[g]? ∧ w'.heap.size = w.heap.size := by
  rcases h with ⟨hc, ⟨h1, h2⟩ | ⟨b, C, rfl, h2, h3, h4, h5, h6⟩⟩
  · omega
  · have hb := (Array.getElem?_eq_some_iff.1 h4).1
    have hk := setCells_kept (bl c 32) (32 * i) (Kept.refl b w)
    refine ⟨b, w.setCells b (32 * i) (bl c 32), fun W => by rw [ix22_run W b 0 len cap i hi, Nat.zero_add], sv24_mid h4 (32 * i) c (by omega), hk.below h2 hBw, ?_, ?_, ?_⟩
    · refine ⟨hc, .inr ⟨b, putL C (32 * i) (bl c 32), rfl, h2, h3, setCells_row (bl c 32) (32 * i) h4, by rw [putL_size]; exact h5, fun q hq => ?_⟩⟩
      rw [putL_get _ _ _ _ (by rw [bl_len]; omega), bl_len]
      unfold over
      by_cases hq2 : 32 * i ≤ q ∧ q < 32 * i + 32
      · rw [if_pos hq2, if_pos hq2, bl_at _ _ _ (by omega)]
      · rw [if_neg hq2, if_neg hq2, h6 q hq]
    · by_cases hg : g < w.heap.size
      · exact hk.block g hg (fun h => h3 h.symm)
      · rw [Array.getElem?_eq_none (by rw [size_cells]; omega), Array.getElem?_eq_none (by omega)]
    · exact size_cells _ _ _ _

end Go.Proofs.YtmpagacbmoeipaaDoor

namespace Go.Proofs.YtmpagacbmoeipaaDoor

open Go.RowKit

set_option linter.unusedVariables false

set_option linter.unusedSimpArgs false

attribute [local go_sem ↓] sv24_eq lv24_eq ix22_eq slr_eq

/-- The row above: the hashes of two neighbours each. -/
def upf (f : Nat → Int) (len d : Nat) (q : Nat) : Int := tw (gt32 f len d (2 * (q / 32))) (gt32 f len d (2 * (q / 32) + 1)) (q % 32)

/-- The row, its first k roots written over. -/
def mixf (f : Nat → Int) (len d k : Nat) (q : Nat) : Int := if q < 32 * k then upf f len d q else f q

theorem mixf_get (f : Nat → Int) (len d k i : Nat) (h : k ≤ i) : gt32 (mixf f len d k) len d i = gt32 f len d i := by
  unfold gt32
  by_cases hi : i < len
  · rw [if_pos hi, if_pos hi]
    funext j
    unfold rt32 mixf
    rw [if_neg (by omega)]
  · rw [if_neg hi, if_neg hi]

theorem mixf_step (f : Nat → Int) (len d k q : Nat) : over (mixf f len d k) (tw (gt32 f len d (2 * k)) (gt32 f len d (2 * k + 1))) (32 * k) 32 q = mixf f len d (k + 1) q := by
  unfold over mixf
  by_cases h1 : 32 * k ≤ q ∧ q < 32 * k + 32
  · rw [if_pos h1, if_pos (by omega)]
    unfold upf
    rw [show q / 32 = k by omega, show q % 32 = q - 32 * k by omega]
  · rw [if_neg h1]
    by_cases h2 : q < 32 * k
    · rw [if_pos h2, if_pos (by omega)]
    · rw [if_neg h2, if_neg (by omega)]

theorem Sh.low {w w' : World} {B : Nat} (h : Sh w) (hB : 3 ≤ B) (hb : Below B w w') : Sh w' :=
  ⟨⟨Nat.lt_of_lt_of_le h.1.1 hb.size, fun i hi => (below_cell hb (by omega)).trans (h.1.2 i hi)⟩, ⟨Nat.lt_of_lt_of_le h.2.1 hb.size, fun i hi => (below_cell hb (by omega)).trans (h.2.2 i hi)⟩⟩

theorem ofs_zero (a : Option Addr) (cap : Nat) : ofs a cap 0 = a := by
  unfold ofs
  by_cases h : cap = 0
  · rw [if_pos h]
  · rw [if_neg h]
    cases a with
    | none => rfl
    | some x => simp [Addr.add]

/-- The state of a row in its walk. -/
def RowSt (B g : Nat) (w : World) (a : Option Addr) (len cap d : Nat) (f : Nat → Int) (W : World) : Prop :=
  Below B w W ∧ RowR W B g a len cap f ∧ ∃ z, z ≤ d ∧ W.heap[g]? = some (.cells (rwA (.slice a len cap) d (zr z) z) 103)

theorem keepSt {B g : Nat} {w W W' : World} {a : Option Addr} {len cap d : Nat} {f : Nat → Int} (hBg : B ≤ g) (h : RowSt B g w a len cap d f W) (hb : Below W.heap.size W W') : RowSt B g w a len cap d f W' := by
  obtain ⟨h1, h2, z, h3, h4⟩ := h
  have hgl := (Array.getElem?_eq_some_iff.1 h4).1
  exact ⟨h1.trans (hb.mono (by omega)), h2.below hb, z, h3, (hb.block g hgl).trans h4⟩

theorem storeSt {B g : Nat} {w W : World} {a : Option Addr} {len cap d i : Nat} {f : Nat → Int} (hBg : B ≤ g) (h : RowSt B g w a len cap d f W) (hi : i < len) (c : Nat → Int) :
    ∃ b w', (∀ W : World, (ix22 (.slice a len cap) (.int .i64 i)).run Tryd.prog W = .ok (.pointer (some ⟨b, 32 * i, none⟩)) W) ∧ (sv24 ⟨b, 32 * i, none⟩ (.agg (vs .u8 32 c))).run Tryd.prog W = .ok () w' ∧ RowSt B g w a len cap d (over f c (32 * i) 32) w' := by
  obtain ⟨h1, h2, z, h3, h4⟩ := h
  have hgl := (Array.getElem?_eq_some_iff.1 h4).1
  obtain ⟨b, w', hx, hs, hB, hr, hg, _⟩ := h2.store hi c (by omega)
  exact ⟨b, w', hx, hs, h1.trans hB, hr, z, h3, hg.trans h4⟩

set_option maxRecDepth 20000 in
set_option maxHeartbeats 1000000 in
theorem rise_any (B g : Nat) (a : Option Addr) (len cap d zd : Nat) (f : Nat → Int) (w : World) (hS : Sh w) (hB : 3 ≤ B) (hBg : B ≤ g) (hg : w.heap[g]? = some (.cells (rwA (.slice a len cap) d (zr zd) zd) 103))
    (hr : RowR w B g a len cap f) (hf : ByB f (32 * len)) (hl : len ≤ 140737488355328) (hz : zd ≤ d) (hd : d ≤ 900) :
    Calls Tryd.prog 53 #[.pointer (some ⟨g, 0, none⟩)] w fun e w' => e = .returned (.tuple #[]) ∧ Below B w w' ∧ RowR w' B g a ((len + 1) / 2) cap (upf f len d) ∧ ∃ z, z ≤ d ∧ w'.heap[g]? = some (.cells (rwA (.slice a ((len + 1) / 2) cap) (d + 1 : Nat) (zr z) z) 103) := by
  have hgl : g < w.heap.size := (Array.getElem?_eq_some_iff.1 hg).1
  obtain ⟨hf2, eh⟩ : ∃ h, h = (len + 1) / 2 := ⟨_, rfl⟩
  rw [← eh]
  have c0 := row_cell hg 0
  rw [rwA_0] at c0
  have r1 : ((len : Int) + 1).tdiv 2 = (hf2 : Int) := by rw [Int.tdiv_eq_ediv_of_nonneg (by omega)]; omega
  have r2 : ((len : Int) + 1) / 2 = (hf2 : Int) := by omega
  have HG := hid hg
  have HS := hid hS
  have HR := hid hr
  have HF := hid hf
  have EH := hid eh
  have hle : hf2 ≤ len := by omega
  clear hg hS hr hf eh
  go_enter Tryd.func53, Tryd.ntmps53
  go_wp2
  clear r1 r2 c0
  go_loopw [12] (fun i wr => ∃ k : Nat, k ≤ hf2 ∧ i = .int .i64 k ∧ Below B w wr ∧ RowR wr B g a len cap (mixf f len d k) ∧ ∃ z, z ≤ d ∧ wr.heap[g]? = some (.cells (rwA (.slice a len cap) d (zr z) z) 103)) (fun i _ => hf2 - (intOf i).toNat)
  case atStart =>
    refine ⟨0, by omega, rfl, Below.refl _ _, HR.out.congr (fun q _ => by unfold mixf; rw [if_neg (by omega)]), zd, hz, HG.out⟩
  case round =>
    clear HG HR
    obtain ⟨k, hk, rfl, hBl, hrr, z, hzd, hg⟩ := hrel
    by_cases hlt : k < hf2
    · have hb2 : decide (k < hf2) = true := by simp; omega
      obtain ⟨x0, e0⟩ : ∃ x : Nat, x = 2 * k := ⟨_, rfl⟩
      obtain ⟨x1, e1⟩ : ∃ x : Nat, x = 2 * k + 1 := ⟨_, rfl⟩
      have q0 : 2 * (k : Int) = (x0 : Int) := by omega
      have q1 : (x0 : Int) + 1 = (x1 : Int) := by omega
      have q2 : IntKind.i64.wrap (x0 : Int) = (x0 : Int) := by rw [IntKind.wrap_i64]; omega
      have q3 : IntKind.i64.wrap (x1 : Int) = (x1 : Int) := by rw [IntKind.wrap_i64]; omega
      have hat : ∀ (x : Nat) (W : World), x ≤ 9223372036854775807 → k ≤ x → RowSt B g w a len cap d (mixf f len d k) W →
          Calls Tryd.prog 54 #[.pointer (some ⟨g, 0, none⟩), .int .i64 x] W fun e w' => e = .returned (.agg (vs .u8 32 (gt32 f len d x))) ∧ RowSt B g w a len cap d (mixf f len d k) w' := by
        rintro x W hx hkx ⟨hb, hrw, z, hz, hgw⟩
        refine (at_any g a len cap d z x _ W (HS.out.low hB hb) hgw (by omega) (by omega) hrw.rts hx hz (by omega)).mono ?_
        rintro e w' ⟨rfl, hkp, z', hz', hg'⟩
        rw [mixf_get _ _ _ _ _ hkx]
        have := hb.size
        exact ⟨rfl, hb.trans (hkp.below hBg (by omega)), hrw.kept hkp, z', hz', hg'⟩
      have h0 := fun W => hat x0 W (by omega) (by omega)
      have h1 := fun W => hat x1 W (by omega) (by omega)
      have H0 := hid h0
      have H1 := hid h1
      have HST : Hid (RowSt B g w a len cap d (mixf f len d k) wr.drew) := ⟨hBl.drew, hrr, z, hzd, hg⟩
      have hcell : ∀ (F : Nat → Int) (W : World), RowSt B g w a len cap d F W → W.cell? ⟨g, 0, none⟩ = some (.slice a len cap) := by
        rintro F W ⟨_, _, z, _, h⟩
        rw [row_cell h, rwA_0]
      have HC := hid hcell
      have HK := hid (And.intro hk (And.intro e0 e1))
      clear hat h0 h1 hBl hrr hg hcell hk e0 e1
      go_upto_region 4 with fail
      refine wp_region_noPanic ?_
      refine wp_region_held_drew (S := fun W => W.cell? ⟨g, 0, none⟩ = some (.slice a len cap)) (by kernel_rfl) (HC.out _ _ HST.out) (fun hHeld => ?_)
      refine tk 0 (v := ?v1) ?y1 hHeld ?r1
      case y1 => intro w hSw; go_simp; try with_reducible rfl
      refine tk 1 (v := ?v2) ?y2 hHeld ?r2
      case y2 => intro w hSw; go_simp; try with_reducible rfl
      refine tk 2 (v := ?v3) ?y3 hHeld ?r3
      case y3 => intro w hSw; go_simp; try with_reducible rfl
      refine tk 3 (v := ?v4) ?y4 hHeld ?r4
      case y4 => intro w hSw; go_simp; try with_reducible rfl
      refine tk 4 (v := ?v5) ?y5 hHeld ?r5
      case y5 => intro w hSw; go_simp; try with_reducible rfl
      refine tk 5 (v := ?v6) ?y6 hHeld ?r6
      case y6 => intro w hSw; go_simp; try with_reducible rfl
      refine tk 6 (v := ?v7) ?y7 hHeld ?r7
      case y7 => intro w hSw; go_simp; try with_reducible rfl
      refine tk 7 (v := ?v8) ?y8 hHeld ?r8
      case y8 => intro w hSw; go_simp; try with_reducible rfl
      refine tk 9 (v := ?v9) ?y9 hHeld ?r9
      case y9 => intro w hSw; go_simp; try with_reducible rfl
      refine tk 10 (v := ?v10) ?y10 hHeld ?r10
      case y10 => intro w hSw; go_simp; try with_reducible rfl
      refine tk 11 (v := ?v11) ?y11 hHeld ?r11
      case y11 => intro w hSw; go_simp; try with_reducible rfl
      refine tk 12 (v := ?v12) ?y12 hHeld ?r12
      case y12 => intro w hSw; go_simp; try with_reducible rfl
      try simp only [Act.put, List.setIfInBounds_toArray, List.set_cons_zero, List.set_cons_succ, Array.toArray_toList, List.getElem_toArray, List.getElem_cons_zero, List.getElem_cons_succ]
      refine wpAnyH_ready (rs := [8]) (by kernel_rfl) (by simp) ?_
      refine AllReadyH.cons rfl (fun K hK => ?_) AllReadyH.nil
      go_simp
      refine (H0.out _ HST.out).mono ?_
      rintro e w1 ⟨rfl, hs1⟩
      dsimp only
      refine hK.out _ _ (HC.out _ _ hs1) (fun hHeld => ?_)
      clear hK K
      try simp only [Act.put, List.setIfInBounds_toArray, List.set_cons_zero, List.set_cons_succ, Array.toArray_toList, List.getElem_toArray, List.getElem_cons_zero, List.getElem_cons_succ]
      refine wpAnyH_ready (rs := [13]) (by kernel_rfl) (by simp) ?_
      refine AllReadyH.cons rfl (fun K hK => ?_) AllReadyH.nil
      go_simp
      refine (H1.out _ hs1).mono ?_
      rintro e w2 ⟨rfl, hs2⟩
      dsimp only
      refine hK.out _ _ (HC.out _ _ hs2) (fun hHeld => ?_)
      clear hK K
      try simp only [Act.put, List.setIfInBounds_toArray, List.set_cons_zero, List.set_cons_succ, Array.toArray_toList, List.getElem_toArray, List.getElem_cons_zero, List.getElem_cons_succ]
      refine wpAnyH_ready (rs := [14]) (by kernel_rfl) (by simp) ?_
      refine AllReadyH.cons rfl (fun K hK => ?_) AllReadyH.nil
      go_simp
      refine (two_tw _ _ _ (HS.out.low hB hs2.1) (gt32_bd HF.out _ _) (gt32_bd HF.out _ _)).mono ?_
      rintro e w3 ⟨rfl, hb3⟩
      dsimp only
      have hs3 := keepSt hBg hs2 hb3
      refine hK.out _ _ (HC.out _ _ hs3) (fun hHeld => ?_)
      clear hK K
      try simp only [Act.put, List.setIfInBounds_toArray, List.set_cons_zero, List.set_cons_succ, Array.toArray_toList, List.getElem_toArray, List.getElem_cons_zero, List.getElem_cons_succ]
      obtain ⟨b, w4, hx, hst, hs4⟩ := storeSt hBg hs3 (show k < len by omega) (tw (gt32 f len d x0) (gt32 f len d x1))
      have HS4 := hid hs4
      refine tk 15 (v := ?v13) ?y13 hHeld ?r13
      case y13 => intro w hSw; go_simp; try with_reducible rfl
      try simp only [Act.put, List.setIfInBounds_toArray, List.set_cons_zero, List.set_cons_succ, Array.toArray_toList, List.getElem_toArray, List.getElem_cons_zero, List.getElem_cons_succ]
      refine wpAnyH_ready (rs := [16]) (by kernel_rfl) (by simp) ?_
      refine AllReadyH.cons rfl (fun K hK => ?_) AllReadyH.nil
      go_simp
      refine hK.out _ _ (HC.out _ _ hs4) (fun hHeld => ?_)
      clear hK K
      try simp only [Act.put, List.setIfInBounds_toArray, List.set_cons_zero, List.set_cons_succ, Array.toArray_toList, List.getElem_toArray, List.getElem_cons_zero, List.getElem_cons_succ]
      refine wpAnyH_done (by kernel_rfl) ?_ _
      refine NoPanic.normal ?_
      go_wp2
      go_roundw
      case rel =>
        obtain ⟨h1, h2, h3⟩ := hs4
        refine ⟨k + 1, by omega, by go_num, h1, h2.congr (fun q _ => ?_), h3⟩
        obtain ⟨_, e0, e1⟩ := HK.out
        rw [e0, e1]
        exact mixf_step f len d k q
      case measure => simp [intOf]; omega
    · have ek : k = hf2 := by omega
      subst ek
      have hb2 : decide (k < k) = false := by simp
      have c0 := row_cell hg 0
      rw [rwA_0] at c0
      have f0 := row_frozen hg 0
      have sr := fun W => slr_run W a len cap 0 k none (some (.int .i64 k)) (.inr ⟨rfl, rfl⟩) (.inl rfl) (by omega) hle hrr.1
      rw [ofs_zero, Nat.sub_zero, Nat.sub_zero] at sr
      have hg1 := (row_set hg 0 (.slice a k cap))
      rw [rwA_set0] at hg1
      have c1 := row_cell hg1 1
      rw [rwA_1] at c1
      have f1 := row_frozen hg1 1
      have hB1 : Below B w (wr.setCell ⟨g, 0, none⟩ (.slice a k cap)) := hBl.setCell hBg _
      have hr1 : RowR (wr.setCell ⟨g, 0, none⟩ (.slice a k cap)) B g a k cap (upf f len d) := ((hrr.kept ((Kept.refl g wr).setCell 0 _)).cut hle).congr (fun q hq => by unfold mixf; rw [if_pos hq])
      obtain ⟨W1, hW1⟩ : ∃ W, wr.setCell ⟨g, 0, none⟩ (.slice a k cap) = W := ⟨_, rfl⟩
      rw [hW1] at hg1 c1 f1 hB1 hr1
      have HG1 := hid hg1
      have HB1 := hid hB1
      have HR1 := hid hr1
      have HW1 := hid hW1
      clear hg1 hB1 hr1 hW1 hg hrr hBl hk
      go_upto_region 7 with fail
      rw [HW1.out]
      clear c0 f0
      go_wp2
      refine bodyPost_end (results_none rfl _ _ _) rfl ?_
      refine ⟨rfl, HB1.out.setCell hBg _, HR1.out.kept ((Kept.refl g W1).setCell 1 _), z, hzd, ?_⟩
      refine (row_set HG1.out 1 _).trans ?_
      rw [rwA_set1]
      rfl

end Go.Proofs.YtmpagacbmoeipaaDoor

namespace Go.Proofs.YtmpagacbmoeipaaDoor

open Go.RowKit

set_option linter.unusedVariables false

set_option linter.unusedSimpArgs false

attribute [local go_sem ↓] sv24_eq lv24_eq ix22_eq slr_eq

theorem infoR : ∃ i, Tryd.prog.info? 24 = some i ∧ i.zero = some (.agg (vs .u8 32 fun _ => 0)) ∧ i.size = 32 ∧ i.bytes = 32 := by
  have h : (Tryd.prog.info? 24).map (fun i => (i.zero, i.size, i.bytes)) = some (some (.agg (vs .u8 32 fun _ => 0)), 32, 32) := by kernel_rfl
  cases hq : Tryd.prog.info? 24 with
  | none => simp [hq] at h
  | some i => simp [hq] at h; exact ⟨i, rfl, h.1, h.2.1, h.2.2⟩

/-- A row of the call's own, as the append's law has it. -/
theorem RowR.ofOwns {w : World} {B : Nat} {v : Value} {n : Nat} {f : Nat → Int} (h : w.ownsRow B 24 32 v n (bl f (32 * n))) : ∃ a cap, v = .slice a n cap ∧ RowR w B w.heap.size a n cap f := by
  rcases h with ⟨_, ⟨rfl, rfl⟩ | ⟨g, cap, cur, rfl, h1, h2, h3, h4, h5, h6⟩⟩
  · exact ⟨none, 0, rfl, Nat.le_refl _, .inl ⟨rfl, fun _ => rfl⟩⟩
  · have hg := (Array.getElem?_eq_some_iff.1 h2).1
    refine ⟨_, cap, rfl, h3, .inr ⟨g, cur, rfl, h1, by omega, h2, by omega, fun q hq => ?_⟩⟩
    have h7 : (cur.toList.take (n * 32))[q]? = (bl f (32 * n))[q]? := by rw [h6]
    rw [List.getElem?_take_of_lt (by omega), bl_at _ _ _ hq, Array.getElem?_toList] at h7
    exact h7

theorem RowR.move {w w' : World} {B g g' : Nat} {a : Option Addr} {len cap : Nat} {f : Nat → Int} (h : RowR w B g a len cap f) (hb : Below w.heap.size w w') (hg : w.heap.size ≤ g') : RowR w' B g' a len cap f := by
  rcases h with ⟨hc, h | ⟨b, C, h1, h2, h3, h4, h5, h6⟩⟩
  · exact ⟨hc, .inl h⟩
  · have hbl := (Array.getElem?_eq_some_iff.1 h4).1
    exact ⟨hc, .inr ⟨b, C, h1, h2, by omega, (hb.block b hbl).trans h4, h5, h6⟩⟩

theorem RowR.down {w : World} {B B' g : Nat} {a : Option Addr} {len cap : Nat} {f : Nat → Int} (h : RowR w B g a len cap f) (hB : B' ≤ B) : RowR w B' g a len cap f := by
  rcases h with ⟨hc, h | ⟨b, C, h1, h2, h3, h4, h5, h6⟩⟩
  · exact ⟨hc, .inl h⟩
  · exact ⟨hc, .inr ⟨b, C, h1, by omega, h3, h4, h5, h6⟩⟩

/- append of roots onto a row of the own -/

set_option maxRecDepth 20000 in
theorem wpList_append_rts (w : World) {ops : Array Oper} {rest : List Oper} {o : Oper} {a : Act} {Q : Exit → Act → World → Prop} (hgd : o.guard = none) (s x : Operand)
    (ho : o.op = .call { callee := .builtin .append, args := #[s, x], argTypes := #[32, 32] })
    (base : Nat) (v : Value) (n : Nat) (m : Nat → Int) (hs : a.eval s = v) (hown : w.ownsRow base 24 32 v n (bl m (32 * n)))
    (ao : Option Addr) (len cap : Nat) (f : Nat → Int) (hx : a.eval x = .slice ao len cap) (hb : Rts w ao len cap f) (hbd : (n + len) * 32 ≤ 140737488355328) (hbase : base ≤ w.heap.size)
    (m' : Nat → Int) (hm1 : ∀ q, q < 32 * n → m' q = m q) (hm2 : ∀ q, q < 32 * len → m' (32 * n + q) = f q)
    (h : ∀ v' w', w'.ownsRow base 24 32 v' (n + len) (bl m' (32 * (n + len))) → w.grownBy w' v.ownBlock → wpList Tryd.prog ops Q rest (a.put o.dst v') w') :
    wpList Tryd.prog ops Q (o :: rest) a w := by
  obtain ⟨i, hi, hz0, hz1, hz2⟩ := infoR
  have hzz : (Value.agg (vs .u8 32 fun _ => 0)).cells.size = 32 := by simp [Value.cells, vs_size]
  have e : bl m (32 * n) ++ bl f (32 * len) = bl m' (32 * (n + len)) := by
    unfold bl
    rw [Nat.mul_add, List.range_add, List.map_append, List.map_map]
    congr 1
    · exact List.map_congr_left fun j hj => by rw [hm1 j (List.mem_range.1 hj)]
    · refine List.map_congr_left fun j hj => ?_
      show Value.int .u8 (f j) = Value.int .u8 (m' (32 * n + j))
      rw [hm2 j (List.mem_range.1 hj)]
  rcases hb with ⟨rfl, rfl, rfl⟩ | ⟨x0, rfl, rfl⟩ | ⟨b, off, rfl, hlc, hbl, hc⟩
  · refine wpList_append_own_none hgd s x 32 ho base 24 i 32 Tryd.underlying32 hi v n _ hs hown hx (h v w ?_ ⟨rfl, rfl, rfl, Nat.le_refl _, fun _ _ _ => rfl⟩)
    rw [← e]
    simpa [bl] using hown
  · exact wpList_append_own w hgd s x 32 ho base 24 i _ 32 32 Tryd.underlying32 hi hz0 hz1 hz2 hzz (by decide) v n _ hs hown x0 0 cap (bl f (32 * 0)) hx (by rw [bl_len])
      (fun j u hj => by
        have := (bl_get f (32 * 0) j u hj).1
        omega) (bl_one f _) (by unfold maxLen; omega) (by omega) hbase (fun v' w' h1 h2 _ => h v' w' (by rw [← e]; exact h1) h2)
  · exact wpList_append_own w hgd s x 32 ho base 24 i _ 32 32 Tryd.underlying32 hi hz0 hz1 hz2 hzz (by decide) v n _ hs hown ⟨b, off, none⟩ len cap (bl f (32 * len)) hx (by rw [bl_len]; omega)
      (fun j u hj => by
        obtain ⟨h1, rfl⟩ := bl_get f (32 * len) j u hj
        rw [addr_add]
        exact hc j h1) (bl_one f _) (by unfold maxLen; omega) (by omega) hbase (fun v' w' h1 h2 _ => h v' w' (by rw [← e]; exact h1) h2)

theorem below_grownS {B s : Nat} {w0 w w' : World} {v : Value} {n : Nat} {xs : List Value} {e : TypeId} (hb : Below B w0 w) (ho : w.ownsRow B e s v n xs) (hB : B ≤ w.heap.size) (hg : w.grownBy w' v.ownBlock) : Below B w0 w' :=
  ⟨hg.os.trans hb.os, hg.tape.trans hb.tape, hg.output.trans hb.output, Nat.le_trans hb.size hg.size, fun k hk => (hg.block k (by omega) (fun e => by have := (ho.lt k e.symm).1; omega)).trans (hb.block k hk)⟩

theorem eqnilR (w : World) (a : Option Addr) (l c : Nat) : (binOp .eql 32 (.slice a l c) (.slice none 0 0)).run Tryd.prog w = .ok (.bool a.isNone) w := by
  simp only [binOp]
  simp [run_equal_slice_nil w 32 24 a l c Tryd.underlying32]

set_option maxRecDepth 20000 in
set_option maxHeartbeats 1000000 in
theorem rclone_any (a : Option Addr) (len cap : Nat) (f : Nat → Int) (w : World) (hr : Rts w a len cap f) (hl : 32 * len ≤ 140737488355328) :
    Calls Tryd.prog 60 #[.slice a len cap] w fun e w' => ∃ a' cap', e = .returned (.slice a' len cap') ∧ Below w.heap.size w w' ∧ RowR w' w.heap.size w'.heap.size a' len cap' f := by
  cases a with
  | none =>
    obtain ⟨rfl, rfl⟩ : len = 0 ∧ cap = 0 := by
      rcases hr with ⟨_, h1, h2⟩ | ⟨_, h, _⟩ | ⟨_, _, h, _⟩
      · exact ⟨h1, h2⟩
      · cases h
      · cases h
    have q := eqnilR w none 0 0
    go_enter Tryd.func60, Tryd.ntmps60
    go_wp2
    go_ret
    exact ⟨none, 0, rfl, Below.refl _ _, Nat.le_refl _, .inl ⟨rfl, fun _ => rfl⟩⟩
  | some x =>
    have HR := hid hr
    have q := eqnilR w (some x) len cap
    clear hr
    go_enter Tryd.func60, Tryd.ntmps60
    go_wp2_with (at_builtin; refine wpList_append_rts _ rfl _ _ rfl w.heap.size _ 0 f rfl (World.ownsRow_made _ #[] 0 (Nat.le_refl _) (Nat.zero_le _) rfl) (some x) len cap f rfl (HR.out.below ((Below.refl _ _).alloc (Nat.le_refl _) _)) (by omega) (by simp) f (fun q _ => rfl) (fun q _ => by rw [Nat.mul_zero, Nat.zero_add]) ?_; intro v' w' ho hgr)
    obtain ⟨a', cap', rfl, hrow⟩ := RowR.ofOwns ho
    go_ret
    refine ⟨a', cap', by rw [Nat.zero_add]; rfl, ?_, by rw [Nat.zero_add] at hrow; exact hrow⟩
    exact below_grownS ((Below.refl _ _).alloc (Nat.le_refl _) _) (World.ownsRow_made (e := 24) (size := 32) _ #[] 0 (Nat.le_refl _) (Nat.zero_le _) rfl) (by simp) hgr

theorem isLimit_any (n : Int) (w : World) (h0 : -9223372036854775808 ≤ n) (h1 : n ≤ 9223372036854775807) :
    Calls Tryd.prog 50 #[.int .i64 n] w fun e w' => e = .returned (.bool (decide (0 ≤ n ∧ n ≤ 1099511627776))) ∧ w' = w := by
  by_cases h : 0 ≤ n
  · go_enter Tryd.func50, Tryd.ntmps50
    go_wp2
    go_ret
    exact ⟨by simp [h], rfl⟩
  · go_enter Tryd.func50, Tryd.ntmps50
    go_wp2
    go_ret
    exact ⟨by rw [decide_eq_false (by omega)]; rfl, rfl⟩

theorem depthOf_any (n : Nat) (w : World) (h1 : n ≤ 1099511627776) :
    Calls Tryd.prog 52 #[.int .i64 n] w fun e w' => e = .returned (.int .i64 (dpt n : Nat)) ∧ w' = w := by
  by_cases h : n = 0
  · subst h
    go_enter Tryd.func52, Tryd.ntmps52
    go_wp2
    go_ret
    exact ⟨rfl, rfl⟩
  · obtain ⟨m, em⟩ : ∃ m, m = n - 1 := ⟨_, rfl⟩
    have hL := Tryd.bits_Len64 (m : Int) w (by omega) (by omega)
    have e1 : (n : Int) - 1 = (m : Int) := by omega
    have hb : ((n : Int) == 0) = false := by simp; omega
    have EM := hid em
    clear em
    go_enter Tryd.func52, Tryd.ntmps52
    go_wp2_with (go_at_call 61; refine hL.mono ?_; rintro e w' ⟨rfl, rfl⟩)
    go_ret
    refine ⟨?_, rfl⟩
    unfold dpt
    rw [if_neg h, EM.out]
    rfl

end Go.Proofs.YtmpagacbmoeipaaDoor

namespace Go.Proofs.YtmpagacbmoeipaaDoor

open Go.RowKit

set_option linter.unusedVariables false

set_option linter.unusedSimpArgs false

/-- A row's block read and written whole. -/
def lv48 (a : Addr) : Sem Value := loadVar 103 a

def sv48 (a : Addr) (v : Value) : Sem Unit := storeVar 103 a v

theorem lv48_eq (a : Addr) : loadVar 103 a = lv48 a := rfl

theorem sv48_eq (a : Addr) (v : Value) : storeVar 103 a v = sv48 a v := rfl

theorem zero_row : ∀ w : World, (zeroValue 103).run Tryd.prog w = .ok (.agg (rwA (.slice none 0 0) 0 (fun _ => 0) 0)) w := (zero_of_info (n := 35) (by kernel_rfl)).1

theorem rwA_one (a : Option Addr) (len cap : Nat) (d : Int) (z : Nat → Int) (zd : Int) : (rwA (.slice a len cap) d z zd).all (·.oneCell') = true := by
  unfold rwA
  rw [Array.all_append, Array.all_append, vs_one]
  simp [Value.oneCell']

theorem sv48_new (W : World) (a a' : Option Addr) (len cap len' cap' : Nat) (d d' zd zd' : Int) (z z' : Nat → Int) : (sv48 ⟨W.heap.size, 0, none⟩ (.agg (rwA (.slice a len cap) d z zd))).run Tryd.prog (W.alloc (.cells (rwA (.slice a' len' cap') d' z' zd') 103)) = .ok () (W.alloc (.cells (rwA (.slice a len cap) d z zd) 103)) :=
  run_storeVar_new W 103 _ _ (by rw [rwA_size]; kernel_rfl) (by rw [rwA_size, rwA_size]) (rwA_one _ _ _ _ _ _)

theorem sv48_run {w : World} {b : Nat} {C : Array Value} {t : TypeId} (h : w.heap[b]? = some (.cells C t)) (hC : C.size = 35) (a : Option Addr) (len cap : Nat) (d : Int) (z : Nat → Int) (zd : Int) : (sv48 ⟨b, 0, none⟩ (.agg (rwA (.slice a len cap) d z zd))).run Tryd.prog w = .ok () (w.setRow b (rwA (.slice a len cap) d z zd)) :=
  run_storeVar_row w b t 103 _ _ h (by rw [rwA_size]; kernel_rfl) (by rw [rwA_size, hC]) (rwA_one _ _ _ _ _ _)

theorem lv48_load {w : World} {b : Nat} {v : Value} {d zd : Int} {z : Nat → Int} {t : TypeId} (h : w.heap[b]? = some (.cells (rwA v d z zd) t)) : (Instr.loadAt 103 (.pointer (some ⟨b, 0, none⟩))).run Tryd.prog w = .ok (.agg (rwA v d z zd)) w :=
  load_row h 103 _ Tryd.underlying103 rfl (by rw [rwA_size]; kernel_rfl)

/-- Values built, whole. -/
def bd48 (ps : Array (Nat × Value)) : Sem Value := Instr.build 103 ps

theorem bd48_eq (ps : Array (Nat × Value)) : Instr.build 103 ps = bd48 ps := rfl

theorem bd48_0 (W : World) (a : Option Addr) (len cap : Nat) : (bd48 #[(0, .slice a len cap)]).run Tryd.prog W = .ok (.agg (rwA (.slice a len cap) 0 (fun _ => 0) 0)) W := by kernel_rfl

def bd27 (ps : Array (Nat × Value)) : Sem Value := Instr.build 24 ps

theorem bd27_eq (ps : Array (Nat × Value)) : Instr.build 24 ps = bd27 ps := rfl

theorem bd27_0 (W : World) : (bd27 #[]).run Tryd.prog W = .ok (.agg (vs .u8 32 fun _ => 0)) W := by kernel_rfl

def bs22 (n : Nat) (ps : Array (Nat × Value)) : Sem Value := Instr.buildSlice 32 n ps

theorem bs22_eq (n : Nat) (ps : Array (Nat × Value)) : Instr.buildSlice 32 n ps = bs22 n ps := rfl

theorem bs22_1 (W : World) (c : Nat → Int) : (bs22 1 #[(0, .agg (vs .u8 32 c))]).run Tryd.prog W = .ok (.slice (some ⟨W.heap.size, 0, none⟩) 1 1) (W.alloc (.cells (vs .u8 32 c) 24)) := by kernel_rfl

theorem sv24_newv (W : World) (o c : Nat → Int) : (sv24 ⟨W.heap.size, 0, none⟩ (.agg (vs .u8 32 c))).run Tryd.prog (W.alloc (.cells (vs .u8 32 o) 24)) = .ok () (W.alloc (.cells (vs .u8 32 c) 24)) :=
  run_storeVar_new W 24 _ _ (by rw [vs_size]; kernel_rfl) (by rw [vs_size, vs_size]) (vs_one _ _ _)

theorem zero_root : ∀ w : World, (zeroValue 24).run Tryd.prog w = .ok (.agg (vs .u8 32 fun _ => 0)) w := (zero_of_info (n := 32) (by kernel_rfl)).1

attribute [local go_sem ↓] sv24_eq lv24_eq ix22_eq slr_eq lv48_eq sv48_eq bd48_eq bd27_eq bs22_eq

theorem RowR.setRow {w : World} {B g k : Nat} {a : Option Addr} {len cap : Nat} {f : Nat → Int} (h : RowR w B g a len cap f) (hk : k < B) (c : Array Value) : RowR (w.setRow k c) B g a len cap f := by
  rcases h with ⟨hc, h | ⟨b, C, h1, h2, h3, h4, h5, h6⟩⟩
  · exact ⟨hc, .inl h⟩
  · exact ⟨hc, .inr ⟨b, C, h1, h2, h3, (setRow_other w k b c (by omega)).trans h4, h5, h6⟩⟩

set_option maxRecDepth 20000 in
set_option maxHeartbeats 1000000 in
theorem lowest_any (a : Option Addr) (len cap : Nat) (f : Nat → Int) (w : World) (hr : Rts w a len cap f) (hl : 32 * len ≤ 140737488355328) :
    Calls Tryd.prog 51 #[.slice a len cap] w fun e w' => ∃ a' cap', e = .returned (.agg (rwA (.slice a' len cap') 0 (zr 0) 0)) ∧ Below w.heap.size w w' ∧ RowR w' w.heap.size w'.heap.size a' len cap' f := by
  have HR := hid hr
  have z := zero_row
  clear hr
  go_enter Tryd.func51, Tryd.ntmps51
  go_upto_region 1 with fail
  obtain ⟨W0, hW0⟩ : ∃ W, w.alloc (.cells (rwA (.slice none 0 0) 0 (fun _ => 0) 0) 103) = W := ⟨_, rfl⟩
  rw [hW0]
  have hB0 : Below w.heap.size w W0 := by rw [← hW0]; exact (Below.refl _ _).alloc (Nat.le_refl _) _
  have r0 : W0.heap[w.heap.size]? = some (.cells (rwA (.slice none 0 0) 0 (fun _ => 0) 0) 103) := by rw [← hW0]; exact heap_new rfl
  have z0 : w.heap.size < W0.heap.size := by rw [← hW0]; simp
  have hc := rclone_any a len cap f W0 (HR.out.below hB0) hl
  have HC := hid hc
  have HB := hid hB0
  have R0 := hid r0
  clear hc hB0 r0 hW0
  have b0 := fun W a' cap' => bd48_0 W a' len cap'
  go_wp2_with (go_at_call 60; refine HC.out.mono ?_; rintro e w1 ⟨a', cap', rfl, hb1, hrow⟩; have s1 := sv48_run ((hb1.block _ z0).trans R0.out) (rwA_size _ _ _ _) a' len cap' 0 (fun _ => 0) 0)
  have z1 := hb1.size
  refine bodyPost_ret (results_cell (by rfl) _ _ w.heap.size _ (by rfl) (lv48_load (setRow_at ((hb1.block _ z0).trans R0.out)))) (by rfl) ?_
  refine ⟨a', cap', rfl, below_row (HB.out.trans (hb1.mono (by omega))) (Nat.le_refl _) _, ?_⟩
  have hs : (w1.setRow w.heap.size (rwA (.slice a' len cap') 0 (fun _ => 0) 0)).heap.size = w1.heap.size := by simp
  rw [hs]
  exact (hrow.setRow z0 _).down (by omega)

/-- The nodes of a level in a row. -/
def ndf (f : Nat → Int) (len k : Nat) (q : Nat) : Int := nd f len k (q / 32) (q % 32)

theorem ndf_get (f : Nat → Int) (len k i j : Nat) (hj : j < 32) : gt32 (ndf f len k) (up len k) k i j = nd f len k i j := by
  unfold gt32
  by_cases h : i < up len k
  · rw [if_pos h]
    unfold rt32 ndf
    rw [show (32 * i + j) / 32 = i by omega, show (32 * i + j) % 32 = j by omega]
  · rw [if_neg h, nd_zero f len k i (by omega)]

theorem ndf_up (f : Nat → Int) (len k q : Nat) : upf (ndf f len k) (up len k) k q = ndf f len (k + 1) q := by
  unfold upf
  exact tw_congr (fun j hj => ndf_get f len k _ j hj) (fun j hj => ndf_get f len k _ j hj) _ (by omega)

theorem ndf_zero (f : Nat → Int) (len q : Nat) (hq : q < 32 * len) : f q = ndf f len 0 q := by
  unfold ndf nd
  rw [if_pos (by omega)]
  unfold rt32
  rw [show 32 * (q / 32) + q % 32 = q by omega]

theorem ndf_bd {f : Nat → Int} {len : Nat} (hf : ByB f (32 * len)) (k n : Nat) : ByB (ndf f len k) n := fun q _ => nd_bd hf k _ _ (by omega)

theorem ret24s {fn : Func} {R : Ending → World → Prop} {a : Act} {w' : World} (t s : Tmp) (b : Nat) (c : Nat → Int) (ty : TypeId) (v : Value) (h : fn.results = #[.cell t 24, .tmp s]) (hd : a.defers = []) (ht : a.tmps.getD t undef = .pointer (some ⟨b, 0, none⟩)) (hs : a.tmps.getD s undef = v) (hr : w'.heap[b]? = some (.cells (vs .u8 32 c) ty))
    (hR : R (.returned (.tuple #[.agg (vs .u8 32 c), v])) w') : bodyPost Tryd.prog fn R .ret a w' := by
  refine bodyPost_ret ?_ hd hR
  have hl := loadAt_var (load_row (P := Tryd.prog) hr 24 _ Tryd.underlying24 rfl (by rw [vs_size]; kernel_rfl))
  rw [Array.getD_eq_getD_getElem?] at ht hs
  simp [results, h, ht, hs, hl, asAddr]

end Go.Proofs.YtmpagacbmoeipaaDoor

namespace Go.Proofs.YtmpagacbmoeipaaDoor

open Go.RowKit

set_option linter.unusedVariables false

set_option linter.unusedSimpArgs false

attribute [local go_sem ↓] sv24_eq lv24_eq ix22_eq slr_eq lv48_eq sv48_eq bd48_eq bd27_eq bs22_eq

/-- Tree's answer: the root and the error. -/
def okL (n : Int) : Prop := 0 ≤ n ∧ n ≤ 1099511627776

instance (n : Int) : Decidable (okL n) := inferInstanceAs (Decidable (0 ≤ n ∧ n ≤ 1099511627776))

def treeV (f : Nat → Int) (len : Nat) (n : Int) : Nat → Int := if okL n ∧ (len : Int) ≤ n then nd f len (dpt n.toNat) 0 else fun _ => 0

def treeE (len : Nat) (n : Int) : Int := if okL n then (if (len : Int) ≤ n then 0 else 6) else 1

theorem treeV_bd {f : Nat → Int} {len : Nat} (hf : ByB f (32 * len)) (n : Int) (j : Nat) (hj : j < 32) : 0 ≤ treeV f len n j ∧ treeV f len n j < 256 := by
  unfold treeV
  by_cases h : okL n ∧ (len : Int) ≤ n
  · rw [if_pos h]; exact nd_bd hf _ _ _ hj
  · rw [if_neg h]; omega

/-- What the walk of a tree's rows keeps: the blocks below B, the row's block q after k steps. -/
def LvSt (B q : Nat) (w : World) (a : Option Addr) (cap : Nat) (f : Nat → Int) (len k : Nat) (W : World) : Prop :=
  Below B w W ∧ RowR W B q a (up len k) cap (ndf f len k) ∧ ∃ z, z ≤ k ∧ W.heap[q]? = some (.cells (rwA (.slice a (up len k) cap) (k : Nat) (zr z) z) 103)

theorem LvSt.rise {B q : Nat} {w : World} {a : Option Addr} {cap : Nat} {f : Nat → Int} {len k : Nat} {W : World} (h : LvSt B q w a cap f len k W) (hS : Sh w) (hB : 3 ≤ B) (hBq : B ≤ q) (hf : ByB f (32 * len)) (hl : len ≤ 140737488355328) (hk : k ≤ 100) :
    Calls Tryd.prog 53 #[.pointer (some ⟨q, 0, none⟩)] W fun e w' => e = .returned (.tuple #[]) ∧ LvSt B q w a cap f len (k + 1) w' := by
  obtain ⟨h1, h2, z, h3, h4⟩ := h
  have := up_le len k
  refine (rise_any B q a (up len k) cap k z (ndf f len k) W (hS.low hB h1) hB hBq h4 h2 (ndf_bd hf k _) (by omega) h3 (by omega)).mono ?_
  rintro e w' ⟨rfl, hb, hr, z', hz', hg⟩
  exact ⟨rfl, h1.trans hb, hr.congr (fun q _ => ndf_up f len k q), z', by omega, hg⟩

theorem LvSt.at {B q : Nat} {w : World} {a : Option Addr} {cap : Nat} {f : Nat → Int} {len k : Nat} {W : World} (h : LvSt B q w a cap f len k W) (hS : Sh w) (hB : 3 ≤ B) (hBq : B ≤ q) (hk : k ≤ 100) (i : Nat) (hi : i ≤ 9223372036854775807) :
    Calls Tryd.prog 54 #[.pointer (some ⟨q, 0, none⟩), .int .i64 i] W fun e w' => e = .returned (.agg (vs .u8 32 (nd f len k i))) ∧ LvSt B q w a cap f len k w' := by
  obtain ⟨h1, h2, z, h3, h4⟩ := h
  refine (at_any q a (up len k) cap k z i (ndf f len k) W (hS.low hB h1) h4 (by omega) (by omega) h2.rts hi h3 (by omega)).mono ?_
  rintro e w' ⟨rfl, hkp, z', hz', hg⟩
  have := (Array.getElem?_eq_some_iff.1 h4).1
  exact ⟨by rw [vs_congr fun j hj => ndf_get f len k i j hj], h1.trans (hkp.below hBq (by omega)), h2.kept hkp, z', hz', hg⟩

/-- The lowest row, laid. -/
theorem lvst_zero {B : Nat} {w W : World} {a : Option Addr} {cap : Nat} {f : Nat → Int} {len : Nat} (hb : Below B w W) (hr : RowR W B W.heap.size a len cap f) (hBw : B ≤ W.heap.size) : LvSt B W.heap.size w a cap f len 0 (W.alloc (.cells (rwA (.slice a len cap) 0 (zr 0) 0) 103)) := by
  refine ⟨hb.alloc hBw _, (hr.move ((Below.refl _ _).alloc (Nat.le_refl _) _) (Nat.le_refl _)).congr (fun q hq => ndf_zero f len q hq), 0, Nat.le_refl _, heap_new rfl⟩

set_option maxRecDepth 20000 in
set_option maxHeartbeats 1000000 in
theorem tree_any (a : Option Addr) (len cap : Nat) (f : Nat → Int) (n : Int) (w : World) (hr : Rts w a len cap f) (hl : 32 * len ≤ 140737488355328) (hf : ByB f (32 * len)) (hS : Sh w) (h0 : -9223372036854775808 ≤ n) (h1 : n ≤ 9223372036854775807) :
    Calls Tryd.prog 42 #[.slice a len cap, .int .i64 n] w fun e w' => e = .returned (.tuple #[.agg (vs .u8 32 (treeV f len n)), .int .i64 (treeE len n)]) ∧ Below w.heap.size w w' := by
  have z := zero_root
  have z2 := zero_row
  have HS := hid hS
  have HR := hid hr
  have HF := hid hf
  clear hS hr hf
  have hil := fun W => isLimit_any n W h0 h1
  by_cases hn : okL n
  · rw [decide_eq_true (show 0 ≤ n ∧ n ≤ 1099511627776 from hn)] at hil
    have HIL := hid hil
    by_cases hle : (len : Int) ≤ n
    · unfold treeV treeE
      rw [if_pos ⟨hn, hle⟩, if_pos hn, if_pos hle]
      obtain ⟨m, rfl⟩ : ∃ m : Nat, n = (m : Int) := ⟨n.toNat, by have := hn.1; omega⟩
      have hm : m ≤ 1099511627776 := by have := hn.2; omega
      rw [Int.toNat_natCast]
      have hD := fun W => depthOf_any m W hm
      have hD2 := dpt_le m hm
      have hD3 := dpt_ge m hm
      generalize dpt m = D at hD hD2 hD3 ⊢
      have HD := hid hD
      have bb : decide ((m : Int) < (len : Int)) = false := by simp; omega
      have bb2 : decide (m < len) = false := by simp; omega
      have hlm : len ≤ 2 ^ D := by omega
      have HD3 := hid hlm
      clear hil hD hn h0 h1 hle hD3 hlm
      go_enter Tryd.func42, Tryd.ntmps42
      go_upto_region 5 with (go_at_call 50; refine (HIL.out _).mono ?_; rintro e w1 ⟨rfl, rfl⟩)
      obtain ⟨W0, hW0⟩ : ∃ W, w.alloc (.cells (vs .u8 32 fun _ => 0) 24) = W := ⟨_, rfl⟩
      rw [hW0]
      have hB0 : Below w.heap.size w W0 := by rw [← hW0]; go_grown
      have r0 : W0.heap[w.heap.size]? = some (.cells (vs .u8 32 fun _ => 0) 24) := by rw [← hW0]; exact heap_new rfl
      have z0 : W0.heap.size = w.heap.size + 1 := by rw [← hW0]; simp
      have hlo := lowest_any a len cap f W0 (HR.out.below hB0) hl
      have HLO := hid hlo
      have H0 := hid (And.intro hB0 (And.intro r0 z0))
      clear hlo hB0 r0 z0 hW0 HIL
      go_upto_region 6 with (go_at_call 51; refine HLO.out.mono ?_; rintro e w1 ⟨a', cap', rfl, hb1, hrow⟩; have sv := sv48_new w1 a' none len cap' 0 0 0 0 0 0 (zr 0) (fun _ => 0))
      obtain ⟨hB0, r0, z0⟩ := H0.out
      have hs0 := hb1.size
      have hst := lvst_zero (w := W0) (hb1.mono (Nat.le_refl _)) hrow hs0
      obtain ⟨W2, hW2⟩ : ∃ W, w1.alloc (.cells (rwA (.slice a' len cap') 0 (zr 0) 0) 103) = W := ⟨_, rfl⟩
      rw [hW2] at hst ⊢
      obtain ⟨q, hq⟩ : ∃ q, w1.heap.size = q := ⟨_, rfl⟩
      rw [hq] at hst hs0 ⊢
      have hw := HS.out.2.1
      have HS0 := hid (HS.out.below hB0)
      have hB3 : 3 ≤ W0.heap.size := by omega
      have HB0 := hid hB0
      have R0 := hid r0
      have HZ0 := hid z0
      have HST := hid hst
      clear hst hrow hb1 hW2 hq H0 HLO hB0 r0 z0 hw sv z z2
      go_wp2_with (go_at_call 52; refine (HD.out _).mono ?_; rintro e w3 ⟨rfl, rfl⟩)
      go_loopw [20] (fun i wr => ∃ k : Nat, k ≤ D ∧ i = .int .i64 k ∧ LvSt W0.heap.size q W0 a' cap' f len k wr) (fun i _ => D - (intOf i).toNat)
      case atStart => exact ⟨0, by omega, rfl, HST.out⟩
      case round =>
        clear HST
        obtain ⟨k, hk, rfl, hst⟩ := hrel
        by_cases hlt : k < D
        · have b3 : decide (k < D) = true := by simp; omega
          have hri := hst.rise HS0.out hB3 hs0 HF.out (by omega) (by omega)
          have HRI := hid hri
          clear hri hst
          go_wp2_with (go_at_call 53; refine HRI.out.mono ?_; rintro e w4 ⟨rfl, hst4⟩)
          go_roundw
          case rel => exact ⟨k + 1, by omega, by go_num, hst4⟩
          case measure => simp [intOf]; omega
        · have ek : k = D := by omega
          subst ek
          have b3 : decide (k < k) = false := by simp
          have hat := hst.at HS0.out hB3 hs0 (by omega) 0 (by omega)
          rw [show ((0 : Nat) : Int) = 0 from rfl] at hat
          have HAT := hid hat
          clear hat hst
          go_wp2_with (go_at_call 54; refine HAT.out.mono ?_; rintro e w4 ⟨rfl, hst4⟩; have sv := sv24_run ((hst4.1.block w.heap.size (by rw [HZ0.out]; omega)).trans R0.out) (nd f len k 0))
          refine ret24s 4 5 w.heap.size _ 24 _ rfl rfl rfl rfl (setRow_at ((hst4.1.block w.heap.size (by rw [HZ0.out]; omega)).trans R0.out)) ⟨rfl, ?_⟩
          exact below_row (HB0.out.trans (hst4.1.mono (by rw [HZ0.out]; omega))) (Nat.le_refl _) _
    · unfold treeV treeE
      rw [if_neg (fun h => hle h.2), if_pos hn, if_neg hle]
      obtain ⟨m, rfl⟩ : ∃ m : Nat, n = (m : Int) := ⟨n.toNat, by have := hn.1; omega⟩
      have bb : decide ((m : Int) < (len : Int)) = true := by simp; omega
      have bb2 : decide (m < len) = true := by simp; omega
      have b0 := bd27_0
      have sv := sv24_newv w (fun _ => 0) (fun _ => 0)
      clear hil hn h0 h1 hle
      go_enter Tryd.func42, Tryd.ntmps42
      go_wp2_with (go_at_call 50; refine (HIL.out _).mono ?_; rintro e w1 ⟨rfl, rfl⟩)
      refine ret24s 4 5 w.heap.size _ 24 _ rfl rfl rfl rfl (heap_new rfl) ⟨rfl, ?_⟩
      go_grown
  · rw [decide_eq_false (show ¬ (0 ≤ n ∧ n ≤ 1099511627776) from hn)] at hil
    have HIL := hid hil
    unfold treeV treeE
    rw [if_neg (fun h => hn h.1), if_neg hn]
    have b0 := bd27_0
    have sv := sv24_newv w (fun _ => 0) (fun _ => 0)
    clear hil hn
    go_enter Tryd.func42, Tryd.ntmps42
    go_wp2_with (go_at_call 50; refine (HIL.out _).mono ?_; rintro e w1 ⟨rfl, rfl⟩)
    refine ret24s 4 5 w.heap.size _ 24 _ rfl rfl rfl rfl (heap_new rfl) ⟨rfl, ?_⟩
    go_grown

end Go.Proofs.YtmpagacbmoeipaaDoor

namespace Go.Proofs.YtmpagacbmoeipaaDoor

open Go.RowKit

set_option linter.unusedVariables false

set_option linter.unusedSimpArgs false

/-- Slices of bytes, whole. -/
def sl22 (x : Value) (lo hi : Option Value) : Sem Value := Instr.sliceAt 39 x lo hi none

theorem sl22_eq (x : Value) (lo hi : Option Value) : Instr.sliceAt 39 x lo hi none = sl22 x lo hi := rfl

theorem sl22_run (W : World) (ao : Option Addr) (len cap lo hi : Nat) (l h : Option Value) (hl : l = some (.int .i64 lo) ∨ l = none ∧ lo = 0) (hh : h = some (.int .i64 hi) ∨ h = none ∧ hi = len) (h1 : lo ≤ hi) (h2 : hi ≤ len) (h3 : len ≤ cap) :
    (sl22 (.slice ao len cap) l h).run Tryd.prog W = .ok (.slice (if cap = lo then ao else ao.map (·.add lo)) (hi - lo) (cap - lo)) W := by
  obtain ⟨i, hi8, _, hz, _⟩ := info_parts info8
  have b1 : ∀ (k n : Nat) (c : BoundsCode), k ≤ n → (Instr.sliceBound (.int .i64 (k : Int)) n c).run Tryd.prog W = .ok k W := by
    intro k n c hk
    have h0 : (k : Int) ≤ (n : Int) := by omega
    simp [Instr.sliceBound, asIntOf, h0]
  have c1 := fun c => b1 lo hi c h1
  have c2 := fun c => b1 hi cap c (by omega)
  unfold sl22 Instr.sliceAt
  rcases hl with rfl | ⟨rfl, rfl⟩ <;> rcases hh with rfl | ⟨rfl, rfl⟩ <;>
    simp [run_underlying Tryd.underlying39, Instr.slice, Instr.sliceBounds, c1, c2, sizeOf, typeInfo, hi8, hz]

/-- Roots made. -/
def mk22 (x y : Value) : Sem Value := Instr.makeSlice 32 x y

theorem mk22_eq (x y : Value) : Instr.makeSlice 32 x y = mk22 x y := rfl

theorem made_rts (n : Nat) : madeCells (vs .u8 32 fun _ => 0) (n * 32) = vs .u8 (32 * n) (fun _ => 0) := by
  apply Array.ext_getElem?
  intro j
  by_cases hj : j < 32 * n
  · rw [vs_get _ _ _ _ hj]
    have hs : (vs .u8 32 fun _ => 0).size = 32 := vs_size _ _ _
    have hj2 : j < n * 32 := by omega
    simp [madeCells, hj2]
    have h3 := vs_get .u8 32 (fun _ => 0) (j % (vs .u8 32 fun _ => 0).size) (by rw [hs]; omega)
    rw [getElem!_def, h3]
  · rw [Array.getElem?_eq_none (by rw [size_madeCells]; omega), Array.getElem?_eq_none (by rw [vs_size]; omega)]

theorem mk22_run (W : World) (n : Nat) (hn : 32 * n ≤ 281474976710656) : (mk22 (.int .i64 n) (.int .i64 n)).run Tryd.prog W = .ok (.slice (some ⟨W.heap.size, 0, none⟩) n n) (W.alloc (.cells (vs .u8 (32 * n) (fun _ => 0)) 24)) := by
  obtain ⟨i, hi, hz0, hz1, hz2⟩ := infoR
  have h := run_make (P := Tryd.prog) W 32 24 i _ Tryd.underlying32 hi hz0 .i64 .i64 n n (by omega) (Int.le_refl _) (by rw [hz2]; omega) (by omega)
  rw [hz1, Int.toNat_natCast] at h
  unfold mk22
  rw [h]
  have e : (Value.agg (vs .u8 32 fun _ => 0)).cells = vs .u8 32 fun _ => 0 := rfl
  rw [e, made_rts]

/-- Bytes copied into a row of bytes. -/
theorem copy_to (W : World) (g N : Nat) (f z : Nat → Int) (p c : Nat) (x : Addr) (len cap dl dcap : Nat) (t : TypeId) (hg : W.heap[g]? = some (.cells (vs .u8 N f) t)) (hp : p + c ≤ N) (hc : c = Nat.min len dl) (hx : ∀ j, j < c → W.cell? (x.add j) = some (.int .u8 (z j))) :
    ∀ ty, (Builtin.copy_ #[39, 39] ty #[.slice (some ⟨g, p, none⟩) dl dcap, .slice (some x) len cap]).run Tryd.prog W = .ok (.int .i64 c) (W.setRow g (vs .u8 N (over f z p c))) := by
  intro ty
  have hrun := run_copy_row (P := Tryd.prog) W 39 39 ty 5 g p dl dcap x len cap (vs .u8 N f) t (bl z c) Tryd.underlying39 (by kernel_rfl) hg (by rw [bl_len]; exact hc)
    (fun j v hj => by
      obtain ⟨h1, rfl⟩ := bl_get z c j v hj
      exact hx j h1) (by rw [bl_len, vs_size]; exact hp) (bl_one z c)
  rw [hrun, bl_len]
  have e : ((vs .u8 N f).toList.take p ++ bl z c ++ (vs .u8 N f).toList.drop (p + c)).toArray = vs .u8 N (over f z p c) := by
    apply Array.ext_getElem?
    intro j
    rw [List.getElem?_toArray, List.append_assoc]
    have hl1 : ((vs .u8 N f).toList.take p).length = p := by rw [List.length_take, Array.length_toList, vs_size]; omega
    by_cases h1 : j < p
    · rw [List.getElem?_append_left (by omega), List.getElem?_take_of_lt h1, Array.getElem?_toList, vs_get _ _ _ _ (by omega), vs_get _ _ _ _ (by omega)]
      unfold over
      rw [if_neg (by omega)]
    · rw [List.getElem?_append_right (by omega), hl1]
      by_cases h2 : j < p + c
      · rw [List.getElem?_append_left (by rw [bl_len]; omega), bl_at _ _ _ (by omega), vs_get _ _ _ _ (by omega)]
        unfold over
        rw [if_pos (by omega)]
      · rw [List.getElem?_append_right (by rw [bl_len]; omega), bl_len, List.getElem?_drop, Array.getElem?_toList, show p + c + (j - p - c) = j by omega]
        by_cases h3 : j < N
        · rw [vs_get _ _ _ _ h3, vs_get _ _ _ _ h3]
          unfold over
          rw [if_neg (by omega)]
        · rw [vs_get_none _ _ _ _ (by omega), vs_get_none _ _ _ _ (by omega)]
  rw [e]
  rfl

/-- The packed bytes, k chunks written. -/
def pkU (m : Nat → Int) (len k : Nat) (q : Nat) : Int := if q < 32 * k ∧ q < len then m q else 0

theorem pkU_step (m : Nat → Int) (len k : Nat) (hk : 32 * k < len) (q : Nat) : over (pkU m len k) (fun j => m (32 * k + j)) (32 * k) (Nat.min (len - 32 * k) 32) q = pkU m len (k + 1) q := by
  have h32 : Nat.min (len - 32 * k) 32 = if len - 32 * k ≤ 32 then len - 32 * k else 32 := by
    by_cases h : len - 32 * k ≤ 32
    · rw [if_pos h]; exact Nat.min_eq_left h
    · rw [if_neg h]; exact Nat.min_eq_right (by omega)
  generalize Nat.min (len - 32 * k) 32 = c at h32
  unfold over pkU
  by_cases h1 : 32 * k ≤ q ∧ q < 32 * k + c
  · rw [if_pos h1, if_pos (by split at h32 <;> omega)]
    show m (32 * k + (q - 32 * k)) = m q
    rw [show 32 * k + (q - 32 * k) = q by omega]
  · rw [if_neg h1]
    by_cases h2 : q < 32 * k ∧ q < len
    · rw [if_pos h2, if_pos (by omega)]
    · rw [if_neg h2, if_neg (by split at h32 <;> omega)]

/-- The packed bytes. -/
def pk (m : Nat → Int) (len : Nat) (q : Nat) : Int := if q < len then m q else 0

theorem pk_bd {m : Nat → Int} {len : Nat} (h : ∀ q, q < len → 0 ≤ m q ∧ m q < 256) (n : Nat) : ByB (pk m len) n := fun q _ => by
  unfold pk
  by_cases hq : q < len
  · rw [if_pos hq]; exact h q hq
  · rw [if_neg hq]; omega

attribute [local go_sem ↓] sv24_eq lv24_eq ix22_eq slr_eq lv48_eq sv48_eq bd48_eq bd27_eq bs22_eq sl22_eq mk22_eq

set_option maxRecDepth 20000 in
set_option maxHeartbeats 2000000 in
theorem pack_any (a : Option Addr) (len cap : Nat) (m : Nat → Int) (w : World) (hb : Bys w a len cap m) (hl : len ≤ 140737488355328) :
    Calls Tryd.prog 43 #[.slice a len cap] w fun e w' => e = .returned (.slice (some ⟨w.heap.size, 0, none⟩) ((len + 31) / 32) ((len + 31) / 32)) ∧ Below w.heap.size w w' ∧ w'.heap.size = w.heap.size + 1 ∧ w'.heap[w.heap.size]? = some (.cells (vs .u8 (32 * ((len + 31) / 32)) (pk m len)) 24) := by
  obtain ⟨cnt, ec⟩ : ∃ c, c = (len + 31) / 32 := ⟨_, rfl⟩
  rw [← ec]
  obtain ⟨q0, eq0⟩ : ∃ c, c = len / 32 := ⟨_, rfl⟩
  have t1 : (len : Int).tdiv 32 = (q0 : Int) := by rw [Int.tdiv_eq_ediv_of_nonneg (by omega)]; omega
  have t2 : (len : Int) / 32 = (q0 : Int) := by omega
  obtain ⟨r0, er0⟩ : ∃ c, c = len % 32 := ⟨_, rfl⟩
  have t3 : (len : Int).tmod 32 = (r0 : Int) := by rw [Int.tmod_eq_emod_of_nonneg (by omega)]; omega
  have t4 : (len : Int) % 32 = (r0 : Int) := by omega
  have mk := fun W => mk22_run W cnt (by omega)
  have HBY := hid hb
  have hcap : len ≤ cap ∧ (0 < len → ∃ b off, a = some ⟨b, off, none⟩ ∧ b < w.heap.size ∧ ∀ j, j < len → w.cell? ⟨b, off + j, none⟩ = some (.int .u8 (m j))) := by
    rcases hb with ⟨_, h1, h2⟩ | ⟨x, _, h⟩ | ⟨b, off, h1, h2, h3, h4, h5⟩
    · exact ⟨by omega, fun h => by omega⟩
    · exact ⟨by omega, fun h0 => by omega⟩
    · exact ⟨h2, fun _ => ⟨b, off, h1, h4, h5⟩⟩
  have HCP0 := hid hcap
  have hcc : cnt * 32 ≤ 140737488355360 := by omega
  have HE := hid (And.intro ec (And.intro eq0 er0))
  have tail : (((r0 : Int) == 0) = true ∧ (q0 : Int) = (cnt : Int)) ∨ (((r0 : Int) == 0) = false ∧ (q0 : Int) + 1 = (cnt : Int)) := by
    by_cases h : r0 = 0
    · exact .inl ⟨by simp; omega, by omega⟩
    · exact .inr ⟨by simp; omega, by omega⟩
  clear hb hcap ec eq0 er0
  rcases tail with ⟨t5, t6⟩ | ⟨t5, t6⟩
  · go_enter Tryd.func43, Tryd.ntmps43
    go_wp2
    go_loopw [19] (fun i wr => ∃ k : Nat, k ≤ cnt ∧ i = .int .i64 k ∧ Below w.heap.size w wr ∧ wr.heap.size = w.heap.size + 1 ∧ wr.heap[w.heap.size]? = some (.cells (vs .u8 (32 * cnt) (pkU m len k)) 24)) (fun i _ => cnt - (intOf i).toNat)
    case atStart =>
      refine ⟨0, by omega, rfl, by go_grown, by simp, (heap_new rfl).trans (congrArg (fun c => some (Obj.cells c 24)) (vs_congr fun q _ => ?_))⟩
      unfold pkU
      rw [if_neg (by omega)]
    case round =>
      clear mk t1 t2 t3 t4 t5 t6
      obtain ⟨k, hk, rfl, hB, hz, r⟩ := hrel
      by_cases hlt : k < cnt
      · have hkl : 32 * k < len := by have := HE.out; omega
        obtain ⟨hcp, hbb⟩ := HCP0.out
        obtain ⟨b, off, rfl, hbw, hc⟩ := hbb (by omega)
        have b3 : decide (k < cnt) = true := by simp; omega
        obtain ⟨p, ep⟩ : ∃ p : Nat, p = 32 * k := ⟨_, rfl⟩
        have q1 : (k : Int) * 32 = (p : Int) := by omega
        have q2 : IntKind.i64.wrap (p : Int) = (p : Int) := by rw [IntKind.wrap_i64]; omega
        have ixf := fun W => ix22_run W w.heap.size 0 cnt cnt k hlt
        rw [Nat.zero_add, ← ep] at ixf
        have sr := fun W => sl22_run W (some ⟨b, off, none⟩) len cap p len (some (.int .i64 p)) none (.inl rfl) (.inr ⟨rfl, rfl⟩) (by omega) (Nat.le_refl _) hcp
        rw [if_neg (by omega), Option.map_some, Addr.add_mid] at sr
        obtain ⟨c, ecc⟩ : ∃ c, c = Nat.min (len - p) 32 := ⟨_, rfl⟩
        have hc1 : c ≤ len - p := by rw [ecc]; exact Nat.min_le_left _ _
        have hc2 : c ≤ 32 := by rw [ecc]; exact Nat.min_le_right _ _
        have hcopy := copy_to wr.drew w.heap.size (32 * cnt) (pkU m len k) (fun j => m (32 * k + j)) p c ⟨b, off + p, none⟩ (len - p) (cap - p) 32 32 24 r (by omega) ecc
          (fun j hj => by
            rw [Addr.add_mid, Nat.add_assoc, ← ep]
            exact (below_cell hB hbw).trans (hc _ (by omega)))
        have HCP := hid hcopy
        have HB := hid hB
        have R := hid r
        have EP := hid (And.intro ep ecc)
        have HZ := hid hz
        clear hcopy hB r ep hz hc ecc
        go_upto_region 8 with fail
        refine wp_region_noPanic ?_
        refine wp_region_held_drew (S := fun _ => True) (by kernel_rfl) (trivial) (fun hHeld => ?_)
        refine tk 0 (v := ?v1) ?y1 hHeld ?r1
        case y1 => intro w hSw; go_simp; try with_reducible rfl
        refine tk 1 (v := ?v2) ?y2 hHeld ?r2
        case y2 => intro w hSw; go_simp; try with_reducible rfl
        refine tk 2 (v := ?v3) ?y3 hHeld ?r3
        case y3 => intro w hSw; go_simp; try with_reducible rfl
        refine tk 3 (v := ?v4) ?y4 hHeld ?r4
        case y4 => intro w hSw; go_simp; try with_reducible rfl
        refine tk 4 (v := ?v5) ?y5 hHeld ?r5
        case y5 => intro w hSw; go_simp; try with_reducible rfl
        refine tk 5 (v := ?v6) ?y6 hHeld ?r6
        case y6 => intro w hSw; go_simp; try with_reducible rfl
        refine tk 6 (v := ?v7) ?y7 hHeld ?r7
        case y7 => intro w hSw; go_simp; try with_reducible rfl
        refine tk 7 (v := ?v8) ?y8 hHeld ?r8
        case y8 => intro w hSw; go_simp; try with_reducible rfl
        try simp only [Act.put, List.setIfInBounds_toArray, List.set_cons_zero, List.set_cons_succ, Array.toArray_toList, List.getElem_toArray, List.getElem_cons_zero, List.getElem_cons_succ]
        refine wpAnyH_ready (rs := [8]) (by kernel_rfl) (by simp) ?_
        refine AllReadyH.cons rfl (fun K hK => ?_) AllReadyH.nil
        refine step_copy_is (by rfl) _ _ 39 39 (by rfl) _ _ _ _ (by rfl) (by rfl) HCP.out ?_
        refine hK.out _ _ trivial (fun hHeld => ?_)
        clear hK K
        try simp only [Act.put, List.setIfInBounds_toArray, List.set_cons_zero, List.set_cons_succ, Array.toArray_toList, List.getElem_toArray, List.getElem_cons_zero, List.getElem_cons_succ]
        refine wpAnyH_done (by kernel_rfl) ?_ _
        refine NoPanic.normal ?_
        go_wp2
        go_roundw
        case rel =>
          refine ⟨k + 1, by omega, by go_num, below_row HB.out.drew (Nat.le_refl _) _, by simpa using HZ.out, (setRow_at (w := wr.drew) R.out).trans (congrArg (fun c => some (Obj.cells c 24)) (vs_congr fun q _ => ?_))⟩
          rw [EP.out.2, EP.out.1]
          exact pkU_step m len k hkl q
        case measure => simp [intOf]; omega
      · have ek : k = cnt := by omega
        subst ek
        have b3 : decide (k < k) = false := by simp
        go_wp2
        go_ret
        refine ⟨rfl, hB, hz, r.trans (congrArg (fun c => some (Obj.cells c 24)) (vs_congr fun q hq => ?_))⟩
        unfold pkU pk
        by_cases h : q < len
        · rw [if_pos ⟨hq, h⟩, if_pos h]
        · rw [if_neg (fun x => h x.2), if_neg h]
  · go_enter Tryd.func43, Tryd.ntmps43
    go_wp2
    go_loopw [19] (fun i wr => ∃ k : Nat, k ≤ cnt ∧ i = .int .i64 k ∧ Below w.heap.size w wr ∧ wr.heap.size = w.heap.size + 1 ∧ wr.heap[w.heap.size]? = some (.cells (vs .u8 (32 * cnt) (pkU m len k)) 24)) (fun i _ => cnt - (intOf i).toNat)
    case atStart =>
      refine ⟨0, by omega, rfl, by go_grown, by simp, (heap_new rfl).trans (congrArg (fun c => some (Obj.cells c 24)) (vs_congr fun q _ => ?_))⟩
      unfold pkU
      rw [if_neg (by omega)]
    case round =>
      clear mk t1 t2 t3 t4 t5 t6
      obtain ⟨k, hk, rfl, hB, hz, r⟩ := hrel
      by_cases hlt : k < cnt
      · have hkl : 32 * k < len := by have := HE.out; omega
        obtain ⟨hcp, hbb⟩ := HCP0.out
        obtain ⟨b, off, rfl, hbw, hc⟩ := hbb (by omega)
        have b3 : decide (k < cnt) = true := by simp; omega
        obtain ⟨p, ep⟩ : ∃ p : Nat, p = 32 * k := ⟨_, rfl⟩
        have q1 : (k : Int) * 32 = (p : Int) := by omega
        have q2 : IntKind.i64.wrap (p : Int) = (p : Int) := by rw [IntKind.wrap_i64]; omega
        have ixf := fun W => ix22_run W w.heap.size 0 cnt cnt k hlt
        rw [Nat.zero_add, ← ep] at ixf
        have sr := fun W => sl22_run W (some ⟨b, off, none⟩) len cap p len (some (.int .i64 p)) none (.inl rfl) (.inr ⟨rfl, rfl⟩) (by omega) (Nat.le_refl _) hcp
        rw [if_neg (by omega), Option.map_some, Addr.add_mid] at sr
        obtain ⟨c, ecc⟩ : ∃ c, c = Nat.min (len - p) 32 := ⟨_, rfl⟩
        have hc1 : c ≤ len - p := by rw [ecc]; exact Nat.min_le_left _ _
        have hc2 : c ≤ 32 := by rw [ecc]; exact Nat.min_le_right _ _
        have hcopy := copy_to wr.drew w.heap.size (32 * cnt) (pkU m len k) (fun j => m (32 * k + j)) p c ⟨b, off + p, none⟩ (len - p) (cap - p) 32 32 24 r (by omega) ecc
          (fun j hj => by
            rw [Addr.add_mid, Nat.add_assoc, ← ep]
            exact (below_cell hB hbw).trans (hc _ (by omega)))
        have HCP := hid hcopy
        have HB := hid hB
        have R := hid r
        have EP := hid (And.intro ep ecc)
        have HZ := hid hz
        clear hcopy hB r ep hz hc ecc
        go_upto_region 8 with fail
        refine wp_region_noPanic ?_
        refine wp_region_held_drew (S := fun _ => True) (by kernel_rfl) (trivial) (fun hHeld => ?_)
        refine tk 0 (v := ?v9) ?y9 hHeld ?r9
        case y9 => intro w hSw; go_simp; try with_reducible rfl
        refine tk 1 (v := ?v10) ?y10 hHeld ?r10
        case y10 => intro w hSw; go_simp; try with_reducible rfl
        refine tk 2 (v := ?v11) ?y11 hHeld ?r11
        case y11 => intro w hSw; go_simp; try with_reducible rfl
        refine tk 3 (v := ?v12) ?y12 hHeld ?r12
        case y12 => intro w hSw; go_simp; try with_reducible rfl
        refine tk 4 (v := ?v13) ?y13 hHeld ?r13
        case y13 => intro w hSw; go_simp; try with_reducible rfl
        refine tk 5 (v := ?v14) ?y14 hHeld ?r14
        case y14 => intro w hSw; go_simp; try with_reducible rfl
        refine tk 6 (v := ?v15) ?y15 hHeld ?r15
        case y15 => intro w hSw; go_simp; try with_reducible rfl
        refine tk 7 (v := ?v16) ?y16 hHeld ?r16
        case y16 => intro w hSw; go_simp; try with_reducible rfl
        try simp only [Act.put, List.setIfInBounds_toArray, List.set_cons_zero, List.set_cons_succ, Array.toArray_toList, List.getElem_toArray, List.getElem_cons_zero, List.getElem_cons_succ]
        refine wpAnyH_ready (rs := [8]) (by kernel_rfl) (by simp) ?_
        refine AllReadyH.cons rfl (fun K hK => ?_) AllReadyH.nil
        refine step_copy_is (by rfl) _ _ 39 39 (by rfl) _ _ _ _ (by rfl) (by rfl) HCP.out ?_
        refine hK.out _ _ trivial (fun hHeld => ?_)
        clear hK K
        try simp only [Act.put, List.setIfInBounds_toArray, List.set_cons_zero, List.set_cons_succ, Array.toArray_toList, List.getElem_toArray, List.getElem_cons_zero, List.getElem_cons_succ]
        refine wpAnyH_done (by kernel_rfl) ?_ _
        refine NoPanic.normal ?_
        go_wp2
        go_roundw
        case rel =>
          refine ⟨k + 1, by omega, by go_num, below_row HB.out.drew (Nat.le_refl _) _, by simpa using HZ.out, (setRow_at (w := wr.drew) R.out).trans (congrArg (fun c => some (Obj.cells c 24)) (vs_congr fun q _ => ?_))⟩
          rw [EP.out.2, EP.out.1]
          exact pkU_step m len k hkl q
        case measure => simp [intOf]; omega
      · have ek : k = cnt := by omega
        subst ek
        have b3 : decide (k < k) = false := by simp
        go_wp2
        go_ret
        refine ⟨rfl, hB, hz, r.trans (congrArg (fun c => some (Obj.cells c 24)) (vs_congr fun q hq => ?_))⟩
        unfold pkU pk
        by_cases h : q < len
        · rw [if_pos ⟨hq, h⟩, if_pos h]
        · rw [if_neg (fun x => h x.2), if_neg h]

end Go.Proofs.YtmpagacbmoeipaaDoor

namespace Go.Proofs.YtmpagacbmoeipaaDoor

open Go.RowKit

set_option linter.unusedVariables false

set_option linter.unusedSimpArgs false

attribute [local go_sem ↓] sv24_eq lv24_eq ix22_eq slr_eq lv48_eq sv48_eq bd48_eq bd27_eq bs22_eq sl22_eq mk22_eq

/-- A number as a chunk. -/
def nmB (n : Int) (j : Nat) : Int := n / 2 ^ (8 * j) % 256

/-- Roots compared. -/
def eqR (c d : Nat → Int) : Bool := (List.range 32).all fun j => c j == d j

theorem eqR_self (c : Nat → Int) : eqR c c = true := by simp [eqR]

theorem eqR_congr {c c' d d' : Nat → Int} (h : ∀ j, j < 32 → c j = c' j) (h' : ∀ j, j < 32 → d j = d' j) : eqR c d = eqR c' d' := by
  unfold eqR
  rw [Bool.eq_iff_iff]
  simp only [List.all_eq_true, List.mem_range, beq_iff_eq]
  constructor
  · intro hh j hj; rw [← h j hj, ← h' j hj]; exact hh j hj
  · intro hh j hj; rw [h j hj, h' j hj]; exact hh j hj

theorem eq32g (w : World) (c d : Nat → Int) : (Op.equalIn 10000 24 (.agg (vs .u8 32 c)) (.agg (vs .u8 32 d))).run Tryd.prog w = .ok (eqR c d) w := by
  have hi : ∃ i, Tryd.prog.info? 5 = some i := Option.isSome_iff_exists.1 (by kernel_rfl)
  obtain ⟨i, hi⟩ := hi
  have hc : Tryd.prog.cellsOf 5 = 1 := by kernel_rfl
  rw [run_equalIn_array w 9999 _ _ Tryd.underlying24 hi, hc]
  exact run_eqItems_ints (P := Tryd.prog) 9998 5 .u8 .u8 Tryd.underlying5 agg_u8 (vs .u8 32 c) (vs .u8 32 d) c d w (List.range 32) (by
    intro j hj
    have hj := List.mem_range.1 hj
    exact ⟨vs_get _ _ _ _ hj, vs_get _ _ _ _ hj⟩)

end Go.Proofs.YtmpagacbmoeipaaDoor

namespace Go.Proofs.YtmpagacbmoeipaaDoor

open Go.RowKit

set_option linter.unusedVariables false

set_option linter.unusedSimpArgs false

attribute [local go_sem ↓] sv24_eq lv24_eq ix22_eq slr_eq lv48_eq sv48_eq bd48_eq bd27_eq bs22_eq sl22_eq mk22_eq

theorem zr1_0 : zr 1 0 = 245 := by
  show shaV KW HW (cat (zr 0) (zr 0)) 64 0 = 245
  rw [shaV_congr (m' := zM) (fun i _ => by unfold cat zr zM; rw [ite_self]) 0 (by omega)]
  exact zero_0

theorem rts_row {w : World} {g n : Nat} {f : Nat → Int} {t : TypeId} (h : w.heap[g]? = some (.cells (vs .u8 (32 * n) f) t)) : Rts w (some ⟨g, 0, none⟩) n n f :=
  .inr (.inr ⟨g, 0, rfl, Nat.le_refl _, (Array.getElem?_eq_some_iff.1 h).1, fun j hj => by rw [Nat.zero_add]; exact row_int h j hj⟩)

end Go.Proofs.YtmpagacbmoeipaaDoor

namespace Go.Proofs.YtmpagacbmoeipaaDoor

open Go.RowKit

set_option linter.unusedVariables false

set_option linter.unusedSimpArgs false

/-- Roots compared, whole. -/
def eqo (x y : Value) : Sem Value := binOp .eql 24 x y

theorem eqo_eq (x y : Value) : binOp .eql 24 x y = eqo x y := rfl

theorem eqo_run (w : World) (c d : Nat → Int) : (eqo (.agg (vs .u8 32 c)) (.agg (vs .u8 32 d))).run Tryd.prog w = .ok (.bool (eqR c d)) w := by
  have h := eq32g w c d
  unfold eqo
  have h2 : (Op.equalIn Op.maxDepth 24 (.agg (vs .u8 32 c)) (.agg (vs .u8 32 d))).run Tryd.prog w = .ok (eqR c d) w := h
  simp [binOp, Op.equal, h2]

theorem yields_eqo {ops : Array Oper} {S : World → Prop} {op : Oper} {a : Act} (hw : Region.wanted op (yielded ops a.tmps) = true) (x y : Operand) (rt : TypeId) (ho : op.op = .binOp .eql 24 x y rt) (c d : Nat → Int)
    (hx : a.eval x = .agg (vs .u8 32 c)) (hy : a.eval y = .agg (vs .u8 32 d)) : YieldsIf Tryd.prog ops S op (.bool (eqR c d)) a :=
  .inl ⟨hw, fun w _ => by
    have h := eqo_run w c d
    unfold eqo at h
    unfold execOp
    simp [ho, hx, hy, eqGuard, h]⟩

attribute [local go_sem ↓] sv24_eq lv24_eq ix22_eq slr_eq lv48_eq sv48_eq bd48_eq bd27_eq bs22_eq sl22_eq mk22_eq eqo_eq

theorem own_bys {w : World} {B : Nat} {v : Value} {n : Nat} {m : Nat → Int} (h : w.ownsRow B 5 1 v n (bl m n)) : ∃ a cap, v = .slice a n cap ∧ Bys w a n cap m ∧ (a = none → n = 0) := by
  rcases h with ⟨h0, ⟨rfl, rfl⟩ | ⟨g, cap, cur, rfl, h1, h2, h3, h4, h5, h6⟩⟩
  · exact ⟨none, 0, rfl, .inl ⟨rfl, rfl, rfl⟩, fun _ => rfl⟩
  · have hg := (Array.getElem?_eq_some_iff.1 h2).1
    unfold maxLen at h4
    refine ⟨_, cap, rfl, .inr (.inr ⟨g, 0, rfl, h3, by omega, hg, fun j hj => ?_⟩), fun h => by cases h⟩
    have h7 : (cur.toList.take (n * 1))[j]? = (bl m n)[j]? := by rw [h6]
    rw [List.getElem?_take_of_lt (by omega), bl_at _ _ _ hj, Array.getElem?_toList] at h7
    rw [Nat.zero_add, row_cell h2, h7]

end Go.Proofs.YtmpagacbmoeipaaDoor
