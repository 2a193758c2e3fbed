/-
  Roots in memory: rows of bytes read and written thirty-two at a time; the block of a row of a tree.
-/
import Derived.Test.YtjimdkpppgjokaaDoorMkA
namespace Go.Proofs.YtjimdkpppgjokaaDoor
open Go.RowKit
set_option linter.unusedVariables false
set_option linter.unusedSimpArgs false

/-- An element's address, whole. -/
def ix22 (x i : Value) : Sem Value := Instr.indexAt 26 x i
theorem ix22_eq (x i : Value) : Instr.indexAt 26 x i = ix22 x i := rfl
theorem size_root (w : World) : (sizeOf 33).run Tryd.prog w = .ok 32 w := by
  have hi : (Tryd.prog.info? 33).map (·.size) = some 32 := by kernel_rfl
  cases hq : Tryd.prog.info? 33 with
  | none => simp [hq] at hi
  | some i => simp [hq] at hi; simp [sizeOf, typeInfo, hq, hi]
theorem ix22_run (w : World) (b off len cap i : Nat) (h : i < len) : (ix22 (.slice (some ⟨b, off, none⟩) len cap) (.int .i64 i)).run Tryd.prog w = .ok (.pointer (some ⟨b, off + 32 * i, none⟩)) w := by
  unfold ix22 Instr.indexAt
  have h1 : (0 : Int) ≤ (i : Int) ∧ (i : Int) < (len : Int) := by omega
  simp only [asIntOf, Sem.run_bind, Sem.run_pure, Result.andThen_ok, run_underlying Tryd.underlying26, if_pos h1, size_root, Addr.add_mid, Int.toNat_natCast]
  rw [Nat.mul_comm]

theorem lv24_mid {w : World} {b o : Nat} {c : Nat → Int} (h : ∀ j, j < 32 → w.cell? ⟨b, o + j, none⟩ = some (.int .u8 (c j))) : (lv24 ⟨b, o, none⟩).run Tryd.prog w = .ok (.agg (vs .u8 32 c)) w := by
  have hr : w.rangeAt b o ((List.range 32).map fun i => Value.int .u8 (c i)) := by
    intro j v hj
    have hlt : j < 32 := by
      have := (List.getElem?_eq_some_iff.1 hj).1
      simpa using this
    rw [h j hlt]
    simp [hlt] at hj
    rw [hj]
  exact loadAt_var (run_loadAt_mid w b o 33 _ _ hr Tryd.underlying33 rfl (by rw [List.length_map, List.length_range]; kernel_rfl))

/-- Values laid into an array from a place on. -/
def putL (C : Array Value) : Nat → List Value → Array Value
  | _, [] => C
  | o, v :: r => putL (C.setIfInBounds o v) (o + 1) r
theorem putL_size (o : Nat) (l : List Value) : ∀ C, (putL C o l).size = C.size := by
  induction l generalizing o with
  | nil => intro C; rfl
  | cons v r ih => intro C; show (putL _ _ r).size = _; rw [ih]; simp
theorem putL_get (l : List Value) : ∀ (C : Array Value) (o j : Nat), o + l.length ≤ C.size → (putL C o l)[j]? = if o ≤ j ∧ j < o + l.length then l[j - o]? else C[j]? := by
  induction l with
  | nil => intro C o j h; rw [if_neg (by simp)]; rfl
  | cons v r ih =>
    intro C o j h
    rw [List.length_cons] at h
    show (putL _ _ r)[j]? = _
    rw [ih _ _ _ (by simp; omega), List.length_cons]
    by_cases h1 : o + 1 ≤ j ∧ j < o + 1 + r.length
    · rw [if_pos h1, if_pos (by omega), show j - o = (j - (o + 1)) + 1 by omega, List.getElem?_cons_succ]
    · rw [if_neg h1, Array.getElem?_setIfInBounds]
      by_cases h2 : o = j
      · subst h2
        rw [if_pos rfl, if_pos (by omega), if_pos (by omega), Nat.sub_self]
        rfl
      · rw [if_neg h2, if_neg (by omega)]
theorem setCells_row {b : Nat} {t : TypeId} (l : List Value) : ∀ {w : World} {C : Array Value} (o : Nat), w.heap[b]? = some (.cells C t) → (w.setCells b o l).heap[b]? = some (.cells (putL C o l) t) := by
  induction l with
  | nil => intro w C o h; exact h
  | cons v r ih => intro w C o h; exact ih (o + 1) (row_set h o v)
theorem setCells_kept {b : Nat} {w0 : World} (l : List Value) : ∀ {w : World} (o : Nat), Kept b w0 w → Kept b w0 (w.setCells b o l) := by
  induction l with
  | nil => intro w o h; exact h
  | cons v r ih => intro w o h; exact ih (o + 1) (h.setCell o v)
theorem there_row {w : World} {b : Nat} {C : Array Value} {t : TypeId} (h : w.heap[b]? = some (.cells C t)) (o n : Nat) (hn : o + n ≤ C.size) : w.there b o n := by
  intro j hj
  refine ⟨?_, row_frozen h _⟩
  rw [row_cell h, Array.getElem?_eq_getElem (by omega)]
  rfl
/-- A root stored in the middle of a block. -/
theorem sv24_mid {w : World} {b : Nat} {C : Array Value} {t : TypeId} (h : w.heap[b]? = some (.cells C t)) (o : Nat) (c : Nat → Int) (hn : o + 32 ≤ C.size) :
    (sv24 ⟨b, o, none⟩ (.agg (vs .u8 32 c))).run Tryd.prog w = .ok () (w.setCells b o (bl c 32)) := by
  have h1 := run_storeVar_mid (P := Tryd.prog) w b o 33 (vs .u8 32 c) (by rw [vs_size]; exact there_row h o 32 hn) (by rw [vs_size]; kernel_rfl) (vs_one _ _ _)
  rw [vs_list] at h1
  exact h1

/-- The block of a row. -/
def rwA (v : Value) (d : Int) (z : Nat → Int) (zd : Int) : Array Value := #[v, .int .i64 d] ++ vs .u8 32 z ++ #[.int .i64 zd]
theorem rwA_size (v : Value) (d : Int) (z : Nat → Int) (zd : Int) : (rwA v d z zd).size = 35 := by simp [rwA, vs_size]
theorem rwA_0 (v : Value) (d : Int) (z : Nat → Int) (zd : Int) : (rwA v d z zd)[0]? = some v := by
  unfold rwA
  rw [Array.getElem?_append_left (by simp [vs_size]), Array.getElem?_append_left (by simp)]
  rfl
theorem rwA_1 (v : Value) (d : Int) (z : Nat → Int) (zd : Int) : (rwA v d z zd)[1]? = some (.int .i64 d) := by
  unfold rwA
  rw [Array.getElem?_append_left (by simp [vs_size]), Array.getElem?_append_left (by simp)]
  rfl
theorem rwA_z (v : Value) (d : Int) (z : Nat → Int) (zd : Int) (j : Nat) (h : j < 32) : (rwA v d z zd)[2 + j]? = some (.int .u8 (z j)) := by
  unfold rwA
  rw [Array.getElem?_append_left (by simp [vs_size]; omega), Array.getElem?_append_right (by simp)]
  simp [vs_get _ _ _ _ h]
theorem rwA_34 (v : Value) (d : Int) (z : Nat → Int) (zd : Int) : (rwA v d z zd)[34]? = some (.int .i64 zd) := by
  unfold rwA
  rw [Array.getElem?_append_right (by simp [vs_size])]
  simp [vs_size]
theorem rwA_ext {v : Value} {d : Int} {z : Nat → Int} {zd : Int} (C : Array Value) (hc : C.size = 35) (h0 : C[0]? = some v) (h1 : C[1]? = some (.int .i64 d)) (hz : ∀ j, j < 32 → C[2 + j]? = some (.int .u8 (z j))) (h34 : C[34]? = some (.int .i64 zd)) : C = rwA v d z zd := by
  apply Array.ext_getElem?
  intro i
  by_cases e : i < 35
  · rcases (by omega : i = 0 ∨ i = 1 ∨ i = 34 ∨ (2 ≤ i ∧ i < 34)) with rfl | rfl | rfl | ⟨e1, e2⟩
    · rw [h0, rwA_0]
    · rw [h1, rwA_1]
    · rw [h34, rwA_34]
    · have := hz (i - 2) (by omega)
      have k := rwA_z v d z zd (i - 2) (by omega)
      rw [show 2 + (i - 2) = i by omega] at this k
      rw [this, k]
  · rw [Array.getElem?_eq_none (by omega), Array.getElem?_eq_none (by rw [rwA_size]; omega)]
theorem rwA_set0 (v v' : Value) (d : Int) (z : Nat → Int) (zd : Int) : (rwA v d z zd).setIfInBounds 0 v' = rwA v' d z zd := by
  refine rwA_ext _ (by simp [rwA_size]) ?_ ?_ (fun j hj => ?_) ?_
  · rw [Array.getElem?_setIfInBounds, if_pos rfl, if_pos (by rw [rwA_size]; omega)]
  · rw [Array.getElem?_setIfInBounds, if_neg (by omega), rwA_1]
  · rw [Array.getElem?_setIfInBounds, if_neg (by omega), rwA_z _ _ _ _ _ hj]
  · rw [Array.getElem?_setIfInBounds, if_neg (by omega), rwA_34]
theorem rwA_set1 (v : Value) (d d' : Int) (z : Nat → Int) (zd : Int) : (rwA v d z zd).setIfInBounds 1 (.int .i64 d') = rwA v d' z zd := by
  refine rwA_ext _ (by simp [rwA_size]) ?_ ?_ (fun j hj => ?_) ?_
  · rw [Array.getElem?_setIfInBounds, if_neg (by omega), rwA_0]
  · rw [Array.getElem?_setIfInBounds, if_pos rfl, if_pos (by rw [rwA_size]; omega)]
  · rw [Array.getElem?_setIfInBounds, if_neg (by omega), rwA_z _ _ _ _ _ hj]
  · rw [Array.getElem?_setIfInBounds, if_neg (by omega), rwA_34]
theorem rwA_set34 (v : Value) (d : Int) (z : Nat → Int) (zd zd' : Int) : (rwA v d z zd).setIfInBounds 34 (.int .i64 zd') = rwA v d z zd' := by
  refine rwA_ext _ (by simp [rwA_size]) ?_ ?_ (fun j hj => ?_) ?_
  · rw [Array.getElem?_setIfInBounds, if_neg (by omega), rwA_0]
  · rw [Array.getElem?_setIfInBounds, if_neg (by omega), rwA_1]
  · rw [Array.getElem?_setIfInBounds, if_neg (by omega), rwA_z _ _ _ _ _ hj]
  · rw [Array.getElem?_setIfInBounds, if_pos rfl, if_pos (by rw [rwA_size]; omega)]
theorem rwA_put (v : Value) (d : Int) (z c : Nat → Int) (zd : Int) : putL (rwA v d z zd) 2 (bl c 32) = rwA v d c zd := by
  have hs : 2 + (bl c 32).length ≤ (rwA v d z zd).size := by rw [bl_len, rwA_size]; omega
  refine rwA_ext _ (by rw [putL_size, rwA_size]) ?_ ?_ (fun j hj => ?_) ?_
  · rw [putL_get _ _ _ _ hs, if_neg (by omega), rwA_0]
  · rw [putL_get _ _ _ _ hs, if_neg (by omega), rwA_1]
  · rw [putL_get _ _ _ _ hs, bl_len, if_pos (by omega), show 2 + j - 2 = j by omega, bl_at _ _ _ hj]
  · rw [putL_get _ _ _ _ hs, bl_len, if_neg (by omega), rwA_34]

/-- Roots in a row, whatever slice it is. -/
def Rts (w : World) (a : Option Addr) (len cap : Nat) (f : Nat → Int) : Prop :=
  (a = none ∧ len = 0 ∧ cap = 0) ∨ (∃ x, a = some x ∧ len = 0) ∨ ∃ b off, a = some ⟨b, off, none⟩ ∧ len ≤ cap ∧ b < w.heap.size ∧ ∀ j, j < 32 * len → w.cell? ⟨b, off + j, none⟩ = some (.int .u8 (f j))
theorem Rts.below {w w' : World} {a : Option Addr} {len cap : Nat} {f : Nat → Int} (h : Rts w a len cap f) (hb : Below w.heap.size w w') : Rts w' a len cap f := by
  rcases h with h | h | ⟨b, off, h1, h2, h3, h4⟩
  · exact .inl h
  · exact .inr (.inl h)
  · exact .inr (.inr ⟨b, off, h1, h2, Nat.lt_of_lt_of_le h3 hb.size, fun j hj => (below_cell hb h3).trans (h4 j hj)⟩)
/-- A root of a row: its address, and what lies there. -/
theorem Rts.at {w : World} {a : Option Addr} {len cap : Nat} {f : Nat → Int} (h : Rts w a len cap f) (i : Nat) (hi : i < len) :
    ∃ b o, b < w.heap.size ∧ (∀ W : World, (ix22 (.slice a len cap) (.int .i64 i)).run Tryd.prog W = .ok (.pointer (some ⟨b, o, none⟩)) W) ∧ ∀ j, j < 32 → w.cell? ⟨b, o + j, none⟩ = some (.int .u8 (rt32 f i j)) := by
  rcases h with ⟨_, h, _⟩ | ⟨_, _, h⟩ | ⟨b, off, rfl, h2, h3, h4⟩
  · omega
  · omega
  · exact ⟨b, off + 32 * i, h3, fun W => ix22_run W b off len cap i hi, fun j hj => by rw [Nat.add_assoc]; exact h4 _ (by omega)⟩

end Go.Proofs.YtjimdkpppgjokaaDoor
