/-
  Trees of hashes, as functions: zero roots, the nodes of a tree, the depth of a limit.
  Roots in memory: rows of bytes read and written thirty-two at a time; the block of a row of a tree.
  What a row tells at a place.
  What a row tells at any place; slices of roots; rows of the call's own.
-/
import Derived.Test.YtficlakgameglaaDoorHaE
import Derived.Lib.BitFns
namespace Go.Proofs.YtficlakgameglaaDoor

open Go.RowKit

set_option linter.unusedVariables false

set_option linter.unusedSimpArgs false

/-- The hash of two roots. -/
def tw (a b : Nat → Int) : Nat → Int := shaV KW HW (cat a b) 64

theorem tw_bd (a b : Nat → Int) (j : Nat) : 0 ≤ tw a b j ∧ tw a b j < 256 := shaV_bd _ _ _ _ _

theorem tw_congr {a a' b b' : Nat → Int} (ha : ∀ j, j < 32 → a j = a' j) (hb : ∀ j, j < 32 → b j = b' j) (j : Nat) (hj : j < 32) : tw a b j = tw a' b' j :=
  shaV_congr (fun i hi => by
    unfold cat
    by_cases h : i < 32
    · rw [if_pos h, if_pos h, ha i h]
    · rw [if_neg h, if_neg h, hb _ (by omega)]) j hj

/-- The zero roots. -/
def zr : Nat → Nat → Int
  | 0 => fun _ => 0
  | n + 1 => tw (zr n) (zr n)

theorem zr_bd (n j : Nat) : 0 ≤ zr n j ∧ zr n j < 256 := by
  cases n with
  | zero => unfold zr; omega
  | succ n => exact tw_bd _ _ _

/-- The root number i of a flat row. -/
def rt32 (f : Nat → Int) (i : Nat) : Nat → Int := fun j => f (32 * i + j)

/-- The node number i of the level d of a tree over the first len roots of f. -/
def nd (f : Nat → Int) (len : Nat) : Nat → Nat → Nat → Int
  | 0, i => if i < len then rt32 f i else fun _ => 0
  | d + 1, i => tw (nd f len d (2 * i)) (nd f len d (2 * i + 1))

def ByB (f : Nat → Int) (n : Nat) : Prop := ∀ q, q < n → 0 ≤ f q ∧ f q < 256

theorem nd_bd {f : Nat → Int} {len : Nat} (hf : ByB f (32 * len)) (d i j : Nat) (hj : j < 32) : 0 ≤ nd f len d i j ∧ nd f len d i j < 256 := by
  cases d with
  | zero =>
    unfold nd
    by_cases h : i < len
    · rw [if_pos h]; exact hf _ (by omega)
    · rw [if_neg h]; omega
  | succ d => exact tw_bd _ _ _

/-- How many nodes of a level stand over roots. -/
def up (len : Nat) : Nat → Nat
  | 0 => len
  | d + 1 => (up len d + 1) / 2

theorem up_le (len d : Nat) : up len d ≤ len := by
  induction d with
  | zero => exact Nat.le_refl _
  | succ d ih => show (up len d + 1) / 2 ≤ len; omega

/-- Nodes that stand over nothing are zero roots. -/
theorem nd_zero (f : Nat → Int) (len : Nat) : ∀ d i, up len d ≤ i → nd f len d i = zr d
  | 0, i, h => by
    unfold nd zr
    rw [if_neg (by show ¬ i < len; exact Nat.not_lt.2 h)]
  | d + 1, i, h => by
    have h : (up len d + 1) / 2 ≤ i := h
    show tw _ _ = tw _ _
    rw [nd_zero f len d (2 * i) (by omega), nd_zero f len d (2 * i + 1) (by omega)]

/-- The depth of a limit. -/
def dpt (n : Nat) : Nat := if n = 0 then 0 else Lib.bitLen (n - 1)

theorem bitLen_lt (x : Nat) (hx : x < 2 ^ 64) : x < 2 ^ Lib.bitLen x := by
  induction x using Nat.strongRecOn with
  | _ x ih =>
    by_cases h0 : x = 0
    · subst h0; exact Nat.two_pow_pos _
    · rw [Lib.bitLen_half x h0 hx, Nat.add_comm, Nat.pow_succ]
      have := ih (x / 2) (by omega) (by omega)
      omega

theorem bitLen_ge (x k : Nat) (hx : x < 2 ^ 64) (h : k < Lib.bitLen x) : 2 ^ k ≤ x := by
  induction x using Nat.strongRecOn generalizing k with
  | _ x ih =>
    by_cases h0 : x = 0
    · subst h0
      have : Lib.bitLen 0 = 0 := by decide
      omega
    · rw [Lib.bitLen_half x h0 hx] at h
      cases k with
      | zero => simp; omega
      | succ k =>
        have := ih (x / 2) (by omega) k (by omega) (by omega)
        rw [Nat.pow_succ]
        omega

theorem dpt_ge (n : Nat) (hn : n ≤ 2 ^ 40) : n ≤ 2 ^ dpt n := by
  unfold dpt
  by_cases h : n = 0
  · rw [h]; exact Nat.zero_le _
  · rw [if_neg h]
    have := bitLen_lt (n - 1) (by omega)
    omega

theorem dpt_lt (n k : Nat) (hn : n ≤ 2 ^ 40) (hk : k < dpt n) : 2 ^ k < n := by
  unfold dpt at hk
  by_cases h : n = 0
  · rw [if_pos h] at hk; omega
  · rw [if_neg h] at hk
    have := bitLen_ge (n - 1) k (by omega) hk
    omega

theorem dpt_le (n : Nat) (hn : n ≤ 2 ^ 40) : dpt n ≤ 40 := by
  by_cases h : dpt n ≤ 40
  · exact h
  · have := dpt_lt n 40 hn (by omega)
    omega

end Go.Proofs.YtficlakgameglaaDoor

namespace Go.Proofs.YtficlakgameglaaDoor

open Go.RowKit

set_option linter.unusedVariables false

set_option linter.unusedSimpArgs false

/-- An element's address, whole. -/
def ix22 (x i : Value) : Sem Value := Instr.indexAt 32 x i

theorem ix22_eq (x i : Value) : Instr.indexAt 32 x i = ix22 x i := rfl

theorem size_root (w : World) : (sizeOf 24).run Tryd.prog w = .ok 32 w := by
  have hi : (Tryd.prog.info? 24).map (·.size) = some 32 := by kernel_rfl
  cases hq : Tryd.prog.info? 24 with
  | none => simp [hq] at hi
  | some i => simp [hq] at hi; simp [sizeOf, typeInfo, hq, hi]

theorem ix22_run (w : World) (b off len cap i : Nat) (h : i < len) : (ix22 (.slice (some ⟨b, off, none⟩) len cap) (.int .i64 i)).run Tryd.prog w = .ok (.pointer (some ⟨b, off + 32 * i, none⟩)) w := by
  unfold ix22 Instr.indexAt
  have h1 : (0 : Int) ≤ (i : Int) ∧ (i : Int) < (len : Int) := by omega
  simp only [asIntOf, Sem.run_bind, Sem.run_pure, Result.andThen_ok, run_underlying Tryd.underlying32, if_pos h1, size_root, Addr.add_mid, Int.toNat_natCast]
  rw [Nat.mul_comm]

theorem lv24_mid {w : World} {b o : Nat} {c : Nat → Int} (h : ∀ j, j < 32 → w.cell? ⟨b, o + j, none⟩ = some (.int .u8 (c j))) : (lv24 ⟨b, o, none⟩).run Tryd.prog w = .ok (.agg (vs .u8 32 c)) w := by
  have hr : w.rangeAt b o ((List.range 32).map fun i => Value.int .u8 (c i)) := by
    intro j v hj
    have hlt : j < 32 := by
      have := (List.getElem?_eq_some_iff.1 hj).1
      simpa using this
    rw [h j hlt]
    simp [hlt] at hj
    rw [hj]
  exact loadAt_var (run_loadAt_mid w b o 24 _ _ hr Tryd.underlying24 rfl (by rw [List.length_map, List.length_range]; kernel_rfl))

/-- Values laid into an array from a place on. -/
def putL (C : Array Value) : Nat → List Value → Array Value
  | _, [] => C
  | o, v :: r => putL (C.setIfInBounds o v) (o + 1) r

theorem putL_size (o : Nat) (l : List Value) : ∀ C, (putL C o l).size = C.size := by
  induction l generalizing o with
  | nil => intro C; rfl
  | cons v r ih => intro C; show (putL _ _ r).size = _; rw [ih]; simp

theorem putL_get (l : List Value) : ∀ (C : Array Value) (o j : Nat), o + l.length ≤ C.size → (putL C o l)[j]? = if o ≤ j ∧ j < o + l.length then l[j - o]? else C[j]? := by
  induction l with
  | nil => intro C o j h; rw [if_neg (by simp)]; rfl
  | cons v r ih =>
    intro C o j h
    rw [List.length_cons] at h
    show (putL _ _ r)[j]? = _
    rw [ih _ _ _ (by simp; omega), List.length_cons]
    by_cases h1 : o + 1 ≤ j ∧ j < o + 1 + r.length
    · rw [if_pos h1, if_pos (by omega), show j - o = (j - (o + 1)) + 1 by omega, List.getElem?_cons_succ]
    · rw [if_neg h1, Array.getElem?_setIfInBounds]
      by_cases h2 : o = j
      · subst h2
        rw [if_pos rfl, if_pos (by omega), if_pos (by omega), Nat.sub_self]
        rfl
      · rw [if_neg h2, if_neg (by omega)]

theorem setCells_row {b : Nat} {t : TypeId} (l : List Value) : ∀ {w : World} {C : Array Value} (o : Nat), w.heap[b]? = some (.cells C t) → (w.setCells b o l).heap[b]? = some (.cells (putL C o l) t) := by
  induction l with
  | nil => intro w C o h; exact h
  | cons v r ih => intro w C o h; exact ih (o + 1) (row_set h o v)

theorem setCells_kept {b : Nat} {w0 : World} (l : List Value) : ∀ {w : World} (o : Nat), Kept b w0 w → Kept b w0 (w.setCells b o l) := by
  induction l with
  | nil => intro w o h; exact h
  | cons v r ih => intro w o h; exact ih (o + 1) (h.setCell o v)

theorem there_row {w : World} {b : Nat} {C : Array Value} {t : TypeId} (h : w.heap[b]? = some (.cells C t)) (o n : Nat) (hn : o + n ≤ C.size) : w.there b o n := by
  intro j hj
  refine ⟨?_, row_frozen h _⟩
  rw [row_cell h, Array.getElem?_eq_getElem (by omega)]
  rfl

/-- A root stored in the middle of a block. -/
theorem sv24_mid {w : World} {b : Nat} {C : Array Value} {t : TypeId} (h : w.heap[b]? = some (.cells C t)) (o : Nat) (c : Nat → Int) (hn : o + 32 ≤ C.size) :
    (sv24 ⟨b, o, none⟩ (.agg (vs .u8 32 c))).run Tryd.prog w = .ok () (w.setCells b o (bl c 32)) := by
  have h1 := run_storeVar_mid (P := Tryd.prog) w b o 24 (vs .u8 32 c) (by rw [vs_size]; exact there_row h o 32 hn) (by rw [vs_size]; kernel_rfl) (vs_one _ _ _)
  rw [vs_list] at h1
  exact h1

/-- The block of a row. -/
def rwA (v : Value) (d : Int) (z : Nat → Int) (zd : Int) : Array Value := #[v, .int .i64 d] ++ vs .u8 32 z ++ #[.int .i64 zd]

theorem rwA_size (v : Value) (d : Int) (z : Nat → Int) (zd : Int) : (rwA v d z zd).size = 35 := by simp [rwA, vs_size]

theorem rwA_0 (v : Value) (d : Int) (z : Nat → Int) (zd : Int) : (rwA v d z zd)[0]? = some v := by
  unfold rwA
  rw [Array.getElem?_append_left (by simp [vs_size]), Array.getElem?_append_left (by simp)]
  rfl

theorem rwA_1 (v : Value) (d : Int) (z : Nat → Int) (zd : Int) : (rwA v d z zd)[1]? = some (.int .i64 d) := by
  unfold rwA
  rw [Array.getElem?_append_left (by simp [vs_size]), Array.getElem?_append_left (by simp)]
  rfl

theorem rwA_z (v : Value) (d : Int) (z : Nat → Int) (zd : Int) (j : Nat) (h : j < 32) : (rwA v d z zd)[2 + j]? = some (.int .u8 (z j)) := by
  unfold rwA
  rw [Array.getElem?_append_left (by simp [vs_size]; omega), Array.getElem?_append_right (by simp)]
  simp [vs_get _ _ _ _ h]

theorem rwA_34 (v : Value) (d : Int) (z : Nat → Int) (zd : Int) : (rwA v d z zd)[34]? = some (.int .i64 zd) := by
  unfold rwA
  rw [Array.getElem?_append_right (by simp [vs_size])]
  simp [vs_size]

theorem rwA_ext {v : Value} {d : Int} {z : Nat → Int} {zd : Int} (C : Array Value) (hc : C.size = 35) (h0 : C[0]? = some v) (h1 : C[1]? = some (.int .i64 d)) (hz : ∀ j, j < 32 → C[2 + j]? = some (.int .u8 (z j))) (h34 : C[34]? = some (.int .i64 zd)) : C = rwA v d z zd := by
  apply Array.ext_getElem?
  intro i
  by_cases e : i < 35
  · rcases (by omega : i = 0 ∨ i = 1 ∨ i = 34 ∨ (2 ≤ i ∧ i < 34)) with rfl | rfl | rfl | ⟨e1, e2⟩
    · rw [h0, rwA_0]
    · rw [h1, rwA_1]
    · rw [h34, rwA_34]
    · have := hz (i - 2) (by omega)
      have k := rwA_z v d z zd (i - 2) (by omega)
      rw [show 2 + (i - 2) = i by omega] at this k
      rw [this, k]
  · rw [Array.getElem?_eq_none (by omega), Array.getElem?_eq_none (by rw [rwA_size]; omega)]

theorem rwA_set0 (v v' : Value) (d : Int) (z : Nat → Int) (zd : Int) : (rwA v d z zd).setIfInBounds 0 v' = rwA v' d z zd := by
  refine rwA_ext _ (by simp [rwA_size]) ?_ ?_ (fun j hj => ?_) ?_
  · rw [Array.getElem?_setIfInBounds, if_pos rfl, if_pos (by rw [rwA_size]; omega)]
  · rw [Array.getElem?_setIfInBounds, if_neg (by omega), rwA_1]
  · rw [Array.getElem?_setIfInBounds, if_neg (by omega), rwA_z _ _ _ _ _ hj]
  · rw [Array.getElem?_setIfInBounds, if_neg (by omega), rwA_34]

theorem rwA_set1 (v : Value) (d d' : Int) (z : Nat → Int) (zd : Int) : (rwA v d z zd).setIfInBounds 1 (.int .i64 d') = rwA v d' z zd := by
  refine rwA_ext _ (by simp [rwA_size]) ?_ ?_ (fun j hj => ?_) ?_
  · rw [Array.getElem?_setIfInBounds, if_neg (by omega), rwA_0]
  · rw [Array.getElem?_setIfInBounds, if_pos rfl, if_pos (by rw [rwA_size]; omega)]
  · rw [Array.getElem?_setIfInBounds, if_neg (by omega), rwA_z _ _ _ _ _ hj]
  · rw [Array.getElem?_setIfInBounds, if_neg (by omega), rwA_34]

theorem rwA_set34 (v : Value) (d : Int) (z : Nat → Int) (zd zd' : Int) : (rwA v d z zd).setIfInBounds 34 (.int .i64 zd') = rwA v d z zd' := by
  refine rwA_ext _ (by simp [rwA_size]) ?_ ?_ (fun j hj => ?_) ?_
  · rw [Array.getElem?_setIfInBounds, if_neg (by omega), rwA_0]
  · rw [Array.getElem?_setIfInBounds, if_neg (by omega), rwA_1]
  · rw [Array.getElem?_setIfInBounds, if_neg (by omega), rwA_z _ _ _ _ _ hj]
  · rw [Array.getElem?_setIfInBounds, if_pos rfl, if_pos (by rw [rwA_size]; omega)]

theorem rwA_put (v : Value) (d : Int) (z c : Nat → Int) (zd : Int) : putL (rwA v d z zd) 2 (bl c 32) = rwA v d c zd := by
  have hs : 2 + (bl c 32).length ≤ (rwA v d z zd).size := by rw [bl_len, rwA_size]; omega
  refine rwA_ext _ (by rw [putL_size, rwA_size]) ?_ ?_ (fun j hj => ?_) ?_
  · rw [putL_get _ _ _ _ hs, if_neg (by omega), rwA_0]
  · rw [putL_get _ _ _ _ hs, if_neg (by omega), rwA_1]
  · rw [putL_get _ _ _ _ hs, bl_len, if_pos (by omega), show 2 + j - 2 = j by omega, bl_at _ _ _ hj]
  · rw [putL_get _ _ _ _ hs, bl_len, if_neg (by omega), rwA_34]

/-- Roots in a row, whatever slice it is. -/
def Rts (w : World) (a : Option Addr) (len cap : Nat) (f : Nat → Int) : Prop :=
  (a = none ∧ len = 0 ∧ cap = 0) ∨ (∃ x, a = some x ∧ len = 0) ∨ ∃ b off, a = some ⟨b, off, none⟩ ∧ len ≤ cap ∧ b < w.heap.size ∧ ∀ j, j < 32 * len → w.cell? ⟨b, off + j, none⟩ = some (.int .u8 (f j))

theorem Rts.below {w w' : World} {a : Option Addr} {len cap : Nat} {f : Nat → Int} (h : Rts w a len cap f) (hb : Below w.heap.size w w') : Rts w' a len cap f := by
  rcases h with h | h | ⟨b, off, h1, h2, h3, h4⟩
  · exact .inl h
  · exact .inr (.inl h)
  · exact .inr (.inr ⟨b, off, h1, h2, Nat.lt_of_lt_of_le h3 hb.size, fun j hj => (below_cell hb h3).trans (h4 j hj)⟩)

/-- A root of a row: its address, and what lies there. -/
theorem Rts.at {w : World} {a : Option Addr} {len cap : Nat} {f : Nat → Int} (h : Rts w a len cap f) (i : Nat) (hi : i < len) :
    ∃ b o, b < w.heap.size ∧ (∀ W : World, (ix22 (.slice a len cap) (.int .i64 i)).run Tryd.prog W = .ok (.pointer (some ⟨b, o, none⟩)) W) ∧ ∀ j, j < 32 → w.cell? ⟨b, o + j, none⟩ = some (.int .u8 (rt32 f i j)) := by
  rcases h with ⟨_, h, _⟩ | ⟨_, _, h⟩ | ⟨b, off, rfl, h2, h3, h4⟩
  · omega
  · omega
  · exact ⟨b, off + 32 * i, h3, fun W => ix22_run W b off len cap i hi, fun j hj => by rw [Nat.add_assoc]; exact h4 _ (by omega)⟩

end Go.Proofs.YtficlakgameglaaDoor

namespace Go.Proofs.YtficlakgameglaaDoor

open Go.RowKit

set_option linter.unusedVariables false

set_option linter.unusedSimpArgs false

attribute [local go_sem ↓] sv24_eq lv24_eq ix22_eq

/-- The two tables of package sha. -/
def Sh (w : World) : Prop := Tab w 0 8 HW ∧ Tab w 1 64 KW

theorem Sh.below {w w' : World} (h : Sh w) (hb : Below w.heap.size w w') : Sh w' := ⟨h.1.below hb, h.2.below hb⟩

theorem Sh.kept {w w' : World} {g : Nat} (h : Sh w) (hb : Kept g w w') (h0 : 0 ≠ g) (h1 : 1 ≠ g) : Sh w' := ⟨hb.tab h.1 h0, hb.tab h.2 h1⟩

theorem two_tw (a b : Nat → Int) (w : World) (hS : Sh w) (ha : ∀ j, j < 32 → 0 ≤ a j ∧ a j < 256) (hb : ∀ j, j < 32 → 0 ≤ b j ∧ b j < 256) :
    Calls Tryd.prog 64 #[.agg (vs .u8 32 a), .agg (vs .u8 32 b)] w fun e w' => e = .returned (.agg (vs .u8 32 (tw a b))) ∧ Below w.heap.size w w' :=
  two_any KW HW a b w hS.1 hS.2 HW_bd ha hb

theorem Kept.setNew {g k : Nat} {a b : World} (h : Kept g a b) (hk : a.heap.size ≤ k) (c : Array Value) : Kept g a (b.setRow k c) :=
  ⟨h.os, h.tape, h.output, by have := h.size; simpa using this, fun i hi hn => (setRow_other b k i c (by omega)).trans (h.block i hi hn)⟩

/-- A row's block: its roots, its depth, the zero root of a depth not below. -/
def zdOf (w : World) (g : Nat) : Nat := match w.cell? ⟨g, 34, none⟩ with | some (.int _ z) => z.toNat | _ => 0

set_option maxRecDepth 20000 in
set_option maxHeartbeats 1000000 in
theorem at_out (g : Nat) (a : Option Addr) (len cap d zd i : Nat) (w : World) (hS : Sh w) (hg : w.heap[g]? = some (.cells (rwA (.slice a len cap) d (zr zd) zd) 156)) (h0 : 0 ≠ g) (h1 : 1 ≠ g)
    (hi : len ≤ i) (hm : i ≤ 9223372036854775807) (hz : zd ≤ d) (hd : d ≤ 1000) :
    Calls Tryd.prog 102 #[.pointer (some ⟨g, 0, none⟩), .int .i64 i] w fun e w' => e = .returned (.agg (vs .u8 32 (zr d))) ∧ Kept g w w' ∧ w'.heap[g]? = some (.cells (rwA (.slice a len cap) d (zr d) d) 156) := by
  have hgl : g < w.heap.size := (Array.getElem?_eq_some_iff.1 hg).1
  have c0 := row_cell hg 0
  rw [rwA_0] at c0
  have HG := hid hg
  have HS := hid hS
  have hb : decide (i < len) = false := by simp; omega
  clear hg hS
  go_enter Tryd.func102, Tryd.ntmps102
  go_wp2
  change Code.wp _ _ _ _ (w.alloc (.cells (vs .u8 32 fun _ => 0) 24))
  go_loopw [46] (fun _ wr => ∃ z : Nat, z ≤ d ∧ Kept g w wr ∧ w.heap.size < wr.heap.size ∧ wr.heap[w.heap.size]? = some (.cells (vs .u8 32 fun _ => 0) 24) ∧ wr.heap[g]? = some (.cells (rwA (.slice a len cap) d (zr z) z) 156)) (fun _ wr => d - zdOf wr g)
  case atStart =>
    refine ⟨zd, hz, Kept.ofBelow ((Below.refl _ _).alloc (Nat.le_refl _) _), by simp, heap_new rfl, (heap_old hgl).trans HG.out⟩
  case round =>
    clear HG c0
    obtain ⟨z, hzd, hkp, hsz, r0, rg⟩ := hrel
    have c1 := row_cell rg 1
    rw [rwA_1] at c1
    have c34 := row_cell rg 34
    rw [rwA_34] at c34
    have HKP := hid hkp
    have R0 := hid r0
    have RG := hid rg
    clear hkp r0 rg
    by_cases hlt : z < d
    · have hb2 : decide (z < d) = true := by simp; omega
      go_wp2
      go_region
      go_upto_region 4 with fail
      have l2 := lv24_mid (w := wr.drew.drew) (b := g) (o := 2) (c := zr z) (fun j hj => (row_cell (w := wr.drew.drew) RG.out (2 + j)).trans (rwA_z _ _ _ _ j hj))
      have hs2 : Sh wr.drew.drew := (HS.out.kept HKP.out.drew.drew h0 h1)
      have hgl2 : g < wr.drew.drew.heap.size := Nat.lt_of_lt_of_le hgl HKP.out.size
      have HS2 := hid hs2
      have HZ2 := hid hgl2
      clear hs2 hgl2
      go_region_with (go_at_call 64; refine (two_tw (zr z) (zr z) _ HS2.out (fun j _ => zr_bd z j) (fun j _ => zr_bd z j)).mono ?_; rintro e w1 ⟨rfl, hb1⟩; have s2 := sv24_mid ((hb1.block g HZ2.out).trans RG.out) 2 (tw (zr z) (zr z)) (by rw [rwA_size]; omega))
      all_goals
        have rg1 : w1.heap[g]? = some (.cells (rwA (.slice a len cap) d (zr z) z) 156) := (hb1.block g HZ2.out).trans RG.out
        have rg2 := setCells_row (bl (tw (zr z) (zr z)) 32) 2 rg1
        rw [rwA_put] at rg2
        have hk1 : Kept g w w1 := (HKP.out.drew.drew).trans (Kept.ofBelow hb1)
        have hk2 := setCells_kept (bl (tw (zr z) (zr z)) 32) 2 hk1
        have r01 : (w1.setCells g 2 (bl (tw (zr z) (zr z)) 32)).heap[w.heap.size]? = some (.cells (vs .u8 32 fun _ => 0) 24) := ((setCells_kept (bl (tw (zr z) (zr z)) 32) 2 (Kept.ofBelow hb1)).block w.heap.size hsz (by omega)).trans R0.out
        have hz2 : w.heap.size < (w1.setCells g 2 (bl (tw (zr z) (zr z)) 32)).heap.size := Nat.lt_of_lt_of_le hsz (setCells_kept (bl (tw (zr z) (zr z)) 32) 2 (Kept.ofBelow (g := g) hb1)).size
        obtain ⟨W2, hW2⟩ : ∃ W, w1.setCells g 2 (bl (tw (zr z) (zr z)) 32) = W := ⟨_, rfl⟩
        rw [hW2] at rg2 hk2 r01 hz2 ⊢
        have d34 := row_cell rg2 34
        rw [rwA_34] at d34
        have f34 := row_frozen rg2 34
        have HRG2 := hid rg2
        have HK2 := hid hk2
        have HR2 := hid r01
        clear rg1 rg2 hk1 hk2 r01 l2 s2 hW2
        go_wp2
        go_roundw
        case rel =>
          refine ⟨z + 1, by omega, HK2.out.setCell 34 _, by rw [size_s]; exact hz2, (heap_set_other (by omega)).trans HR2.out, ?_⟩
          refine (row_set HRG2.out 34 _).trans ?_
          rw [rwA_set34]
          rfl
        case measure =>
          have e1 : zdOf (W2.setCell ⟨g, 34, none⟩ (.int .i64 ((z : Int) + 1))) g = z + 1 := by
            unfold zdOf
            rw [row_cell (row_set HRG2.out 34 _), rwA_set34, rwA_34]
            show ((z : Int) + 1).toNat = z + 1
            omega
          have e2 : zdOf wr g = z := by
            unfold zdOf
            rw [c34]
            show ((z : Int)).toNat = z
            omega
          rw [e1, e2]
          omega
    · have ez : z = d := by omega
      subst ez
      have hb2 : decide (z < z) = false := by simp
      go_wp2
      go_region
      go_upto_region 6 with fail
      have l2 := lv24_mid (w := wr.drew) (b := g) (o := 2) (c := zr z) (fun j hj => (row_cell (w := wr.drew) RG.out (2 + j)).trans (rwA_z _ _ _ _ j hj))
      have s2 := sv24_run (w := wr.drew) R0.out (zr z)
      go_wp2
      refine ret24 4 w.heap.size _ 24 rfl rfl rfl (setRow_at (w := wr.drew) R0.out) ⟨rfl, ?_, ?_⟩
      · exact HKP.out.drew.setNew (Nat.le_refl _) _
      · exact (setRow_other _ _ _ _ (by omega)).trans RG.out

end Go.Proofs.YtficlakgameglaaDoor

namespace Go.Proofs.YtficlakgameglaaDoor

open Go.RowKit

set_option linter.unusedVariables false

set_option linter.unusedSimpArgs false

attribute [local go_sem ↓] sv24_eq lv24_eq ix22_eq

set_option maxRecDepth 20000 in
set_option maxHeartbeats 1000000 in
theorem at_in (g : Nat) (a : Option Addr) (len cap i : Nat) (d zd : Int) (z f : Nat → Int) (w : World) (hg : w.heap[g]? = some (.cells (rwA (.slice a len cap) d z zd) 156)) (hr : Rts w a len cap f) (hi : i < len) (hm : i ≤ 9223372036854775807) :
    Calls Tryd.prog 102 #[.pointer (some ⟨g, 0, none⟩), .int .i64 i] w fun e w' => e = .returned (.agg (vs .u8 32 (rt32 f i))) ∧ Below w.heap.size w w' := by
  obtain ⟨b, o, hb, hx, hc⟩ := hr.at i hi
  have hgl : g < w.heap.size := (Array.getElem?_eq_some_iff.1 hg).1
  have c0 := row_cell hg 0
  rw [rwA_0] at c0
  have hbt : decide (i < len) = true := by simp; omega
  have HG := hid hg
  have HC := hid hc
  clear hg hc hr
  go_enter Tryd.func102, Tryd.ntmps102
  go_upto_region 2 with fail
  change Code.wp _ _ _ _ (w.alloc (.cells (vs .u8 32 fun _ => 0) 24))
  obtain ⟨W, hW⟩ : ∃ W, w.alloc (.cells (vs .u8 32 fun _ => 0) 24) = W := ⟨_, rfl⟩
  have hB : Below w.heap.size w W := by rw [← hW]; exact (Below.refl _ _).alloc (Nat.le_refl _) _
  have r0 : W.heap[w.heap.size]? = some (.cells (vs .u8 32 fun _ => 0) 24) := by rw [← hW]; exact heap_new rfl
  rw [hW]
  have c1 : W.cell? ⟨g, 0, none⟩ = some (.slice a len cap) := (below_cell hB hgl).trans c0
  have l2 := lv24_mid (w := W) (b := b) (o := o) (c := rt32 f i) (fun j hj => (below_cell hB hb).trans (HC.out j hj))
  have s2 := sv24_run r0 (rt32 f i)
  have HB := hid hB
  have R0 := hid r0
  clear hB r0 hW c0
  go_wp2
  refine ret24 4 w.heap.size _ 24 rfl rfl rfl (setRow_at R0.out) ⟨rfl, ?_⟩
  exact below_row HB.out (Nat.le_refl _) _

/-- The root at a place of a row. -/
def gt32 (f : Nat → Int) (len d i : Nat) : Nat → Int := if i < len then rt32 f i else zr d

theorem gt32_bd {f : Nat → Int} {len : Nat} (hf : ByB f (32 * len)) (d i : Nat) : ∀ j, j < 32 → 0 ≤ gt32 f len d i j ∧ gt32 f len d i j < 256 := by
  intro j hj
  unfold gt32
  by_cases h : i < len
  · rw [if_pos h]; exact hf _ (by omega)
  · rw [if_neg h]; exact zr_bd _ _

theorem at_any (g : Nat) (a : Option Addr) (len cap d zd i : Nat) (f : Nat → Int) (w : World) (hS : Sh w) (hg : w.heap[g]? = some (.cells (rwA (.slice a len cap) d (zr zd) zd) 156)) (h0 : 0 ≠ g) (h1 : 1 ≠ g)
    (hr : Rts w a len cap f) (hm : i ≤ 9223372036854775807) (hz : zd ≤ d) (hd : d ≤ 1000) :
    Calls Tryd.prog 102 #[.pointer (some ⟨g, 0, none⟩), .int .i64 i] w fun e w' => e = .returned (.agg (vs .u8 32 (gt32 f len d i))) ∧ Kept g w w' ∧ ∃ z, z ≤ d ∧ w'.heap[g]? = some (.cells (rwA (.slice a len cap) d (zr z) z) 156) := by
  by_cases hi : i < len
  · refine (at_in g a len cap i d zd (zr zd) f w hg hr hi hm).mono ?_
    rintro e w' ⟨rfl, hb⟩
    refine ⟨by unfold gt32; rw [if_pos hi], Kept.ofBelow hb, zd, hz, (hb.block g (Array.getElem?_eq_some_iff.1 hg).1).trans hg⟩
  · refine (at_out g a len cap d zd i w hS hg h0 h1 (by omega) hm hz hd).mono ?_
    rintro e w' ⟨rfl, hk, hg'⟩
    exact ⟨by unfold gt32; rw [if_neg hi], hk, d, Nat.le_refl _, hg'⟩

/-- Slices of roots, whole. -/
def slr (x : Value) (lo hi : Option Value) : Sem Value := Instr.sliceAt 32 x lo hi none

theorem slr_eq (x : Value) (lo hi : Option Value) : Instr.sliceAt 32 x lo hi none = slr x lo hi := rfl

def ofs (a : Option Addr) (cap lo : Nat) : Option Addr := if cap = lo then a else a.map (·.add (lo * 32))

theorem slr_run (W : World) (ao : Option Addr) (len cap lo hi : Nat) (l h : Option Value) (hl : l = some (.int .i64 lo) ∨ l = none ∧ lo = 0) (hh : h = some (.int .i64 hi) ∨ h = none ∧ hi = len) (h1 : lo ≤ hi) (h2 : hi ≤ len) (h3 : len ≤ cap) :
    (slr (.slice ao len cap) l h).run Tryd.prog W = .ok (.slice (ofs ao cap lo) (hi - lo) (cap - lo)) W := by
  have b1 : ∀ (k n : Nat) (c : BoundsCode), k ≤ n → (Instr.sliceBound (.int .i64 (k : Int)) n c).run Tryd.prog W = .ok k W := by
    intro k n c hk
    have h0 : (k : Int) ≤ (n : Int) := by omega
    simp [Instr.sliceBound, asIntOf, h0]
  have c1 := fun c => b1 lo hi c h1
  have c2 := fun c => b1 hi cap c (by omega)
  unfold slr Instr.sliceAt ofs
  rcases hl with rfl | ⟨rfl, rfl⟩ <;> rcases hh with rfl | ⟨rfl, rfl⟩ <;>
    simp [run_underlying Tryd.underlying32, Instr.slice, Instr.sliceBounds, c1, c2, size_root]

theorem Rts.part {w : World} {a : Option Addr} {len cap : Nat} {f : Nat → Int} (h : Rts w a len cap f) (lo hi : Nat) (h1 : lo ≤ hi) (h2 : hi ≤ len) :
    Rts w (ofs a cap lo) (hi - lo) (cap - lo) (fun q => f (32 * lo + q)) := by
  unfold ofs
  rcases h with ⟨rfl, rfl, rfl⟩ | ⟨x, rfl, rfl⟩ | ⟨b, off, rfl, h3, h4, h5⟩
  · exact .inl ⟨by simp, by omega, by omega⟩
  · by_cases hc : cap = lo
    · rw [if_pos hc]; exact .inr (.inl ⟨x, rfl, by omega⟩)
    · rw [if_neg hc]; exact .inr (.inl ⟨x.add (lo * 32), rfl, by omega⟩)
  · by_cases hc : cap = lo
    · rw [if_pos hc]; exact .inr (.inl ⟨_, rfl, by omega⟩)
    · rw [if_neg hc]
      refine .inr (.inr ⟨b, off + lo * 32, by rw [Option.map_some, Addr.add_mid], by omega, h4, fun j hj => ?_⟩)
      rw [show off + lo * 32 + j = off + (32 * lo + j) by omega]
      exact h5 _ (by omega)

/-- The roots of a row's own, from block B on, not in block g. -/
def RowR (w : World) (B g : Nat) (a : Option Addr) (len cap : Nat) (f : Nat → Int) : Prop :=
  len ≤ cap ∧ (len = 0 ∧ (a = none → cap = 0) ∨ ∃ b C, a = some ⟨b, 0, none⟩ ∧ B ≤ b ∧ b ≠ g ∧ w.heap[b]? = some (.cells C 24) ∧ 32 * len ≤ C.size ∧ ∀ q, q < 32 * len → C[q]? = some (.int .u8 (f q)))

theorem RowR.rts {w : World} {B g : Nat} {a : Option Addr} {len cap : Nat} {f : Nat → Int} (h : RowR w B g a len cap f) : Rts w a len cap f := by
  rcases h with ⟨hc, ⟨h1, h2⟩ | ⟨b, C, rfl, h2, h3, h4, h5, h6⟩⟩
  · cases a with
    | none => exact .inl ⟨rfl, h1, h2 rfl⟩
    | some x => exact .inr (.inl ⟨x, rfl, h1⟩)
  · exact .inr (.inr ⟨b, 0, rfl, hc, (Array.getElem?_eq_some_iff.1 h4).1, fun j hj => by rw [Nat.zero_add, row_cell h4]; exact h6 j hj⟩)

theorem RowR.kept {w w' : World} {B g : Nat} {a : Option Addr} {len cap : Nat} {f : Nat → Int} (h : RowR w B g a len cap f) (hk : Kept g w w') : RowR w' B g a len cap f := by
  rcases h with ⟨hc, h | ⟨b, C, h1, h2, h3, h4, h5, h6⟩⟩
  · exact ⟨hc, .inl h⟩
  · exact ⟨hc, .inr ⟨b, C, h1, h2, h3, (hk.block b (Array.getElem?_eq_some_iff.1 h4).1 h3).trans h4, h5, h6⟩⟩

theorem RowR.below {w w' : World} {B g : Nat} {a : Option Addr} {len cap : Nat} {f : Nat → Int} (h : RowR w B g a len cap f) (hk : Below w.heap.size w w') : RowR w' B g a len cap f := h.kept (Kept.ofBelow hk)

theorem RowR.cut {w : World} {B g : Nat} {a : Option Addr} {len cap n : Nat} {f : Nat → Int} (h : RowR w B g a len cap f) (hn : n ≤ len) : RowR w B g a n cap f := by
  rcases h with ⟨hc, ⟨h1, h2⟩ | ⟨b, C, h1, h2, h3, h4, h5, h6⟩⟩
  · exact ⟨by omega, .inl ⟨by omega, h2⟩⟩
  · exact ⟨by omega, .inr ⟨b, C, h1, h2, h3, h4, by omega, fun q hq => h6 q (by omega)⟩⟩

theorem RowR.congr {w : World} {B g : Nat} {a : Option Addr} {len cap : Nat} {f f' : Nat → Int} (h : RowR w B g a len cap f) (hf : ∀ q, q < 32 * len → f q = f' q) : RowR w B g a len cap f' := by
  rcases h with ⟨hc, h | ⟨b, C, h1, h2, h3, h4, h5, h6⟩⟩
  · exact ⟨hc, .inl h⟩
  · exact ⟨hc, .inr ⟨b, C, h1, h2, h3, h4, h5, fun q hq => by rw [h6 q hq, hf q hq]⟩⟩

theorem size_cells (b : Nat) (l : List Value) : ∀ (o : Nat) (w : World), (w.setCells b o l).heap.size = w.heap.size := by
  induction l with
  | nil => intro o w; rfl
  | cons v r ih => intro o w; show ((w.setCell _ v).setCells b (o + 1) r).heap.size = _; rw [ih, size_s]

/-- A root stored in the row. -/
theorem RowR.store {w : World} {B g : Nat} {a : Option Addr} {len cap i : Nat} {f : Nat → Int} (h : RowR w B g a len cap f) (hi : i < len) (c : Nat → Int) (hBw : B ≤ w.heap.size) :
    ∃ b w', (∀ W : World, (ix22 (.slice a len cap) (.int .i64 i)).run Tryd.prog W = .ok (.pointer (some ⟨b, 32 * i, none⟩)) W) ∧ (sv24 ⟨b, 32 * i, none⟩ (.agg (vs .u8 32 c))).run Tryd.prog w = .ok () w' ∧ Below B w w' ∧ RowR w' B g a len cap (over f c (32 * i) 32) ∧ w'.heap[g]? = w.heap[g]? ∧ w'.heap.size = w.heap.size := by
  rcases h with ⟨hc, ⟨h1, h2⟩ | ⟨b, C, rfl, h2, h3, h4, h5, h6⟩⟩
  · omega
  · have hb := (Array.getElem?_eq_some_iff.1 h4).1
    have hk := setCells_kept (bl c 32) (32 * i) (Kept.refl b w)
    refine ⟨b, w.setCells b (32 * i) (bl c 32), fun W => by rw [ix22_run W b 0 len cap i hi, Nat.zero_add], sv24_mid h4 (32 * i) c (by omega), hk.below h2 hBw, ?_, ?_, ?_⟩
    · refine ⟨hc, .inr ⟨b, putL C (32 * i) (bl c 32), rfl, h2, h3, setCells_row (bl c 32) (32 * i) h4, by rw [putL_size]; exact h5, fun q hq => ?_⟩⟩
      rw [putL_get _ _ _ _ (by rw [bl_len]; omega), bl_len]
      unfold over
      by_cases hq2 : 32 * i ≤ q ∧ q < 32 * i + 32
      · rw [if_pos hq2, if_pos hq2, bl_at _ _ _ (by omega)]
      · rw [if_neg hq2, if_neg hq2, h6 q hq]
    · by_cases hg : g < w.heap.size
      · exact hk.block g hg (fun h => h3 h.symm)
      · rw [Array.getElem?_eq_none (by rw [size_cells]; omega), Array.getElem?_eq_none (by omega)]
    · exact size_cells _ _ _ _

end Go.Proofs.YtficlakgameglaaDoor
