/-
  A digest in memory, and what it is a digest of.
-/
import Derived.Test.YtjimdkpppgjokaaDoorShaD
import Derived.Laws.IdiomCopy
import Derived.Laws.CopyOwn
import Derived.StillTailTactics
namespace Go.Proofs.YtjimdkpppgjokaaDoor
open Go.RowKit
set_option linter.unusedVariables false

/-- The cells of a digest. -/
def dg (s f : Nat → Int) (n : Int) : Array Value := vs .u32 8 s ++ vs .u8 64 f ++ #[.int .u64 n]
theorem dg_size (s f : Nat → Int) (n : Int) : (dg s f n).size = 73 := by simp [dg, vs_size]
theorem dg_word (s f : Nat → Int) (n : Int) (i : Nat) (h : i < 8) : (dg s f n)[i]? = some (.int .u32 (s i)) := by
  unfold dg
  rw [Array.getElem?_append_left (by simp [vs_size]; omega), Array.getElem?_append_left (by simp [vs_size]; omega), vs_get _ _ _ _ h]
theorem dg_byte (s f : Nat → Int) (n : Int) (j : Nat) (h : j < 64) : (dg s f n)[8 + j]? = some (.int .u8 (f j)) := by
  unfold dg
  rw [Array.getElem?_append_left (by simp [vs_size]; omega), Array.getElem?_append_right (by simp [vs_size]), vs_size, show 8 + j - 8 = j by omega, vs_get _ _ _ _ h]
theorem dg_len (s f : Nat → Int) (n : Int) : (dg s f n)[72]? = some (.int .u64 n) := by
  unfold dg
  rw [Array.getElem?_append_right (by simp [vs_size])]
  simp [vs_size]
theorem dg_ext {s f s' f' : Nat → Int} {n n' : Int} (c : Array Value) (hc : c.size = 73) (hw : ∀ i, i < 8 → c[i]? = some (.int .u32 (s' i))) (hb : ∀ j, j < 64 → c[8 + j]? = some (.int .u8 (f' j))) (hl : c[72]? = some (.int .u64 n')) : c = dg s' f' n' := by
  apply Array.ext_getElem?
  intro i
  by_cases h8 : i < 8
  · rw [hw i h8, dg_word _ _ _ i h8]
  · by_cases h72 : i < 72
    · have e : i = 8 + (i - 8) := by omega
      rw [e, hb (i - 8) (by omega), dg_byte _ _ _ _ (by omega)]
    · by_cases e : i = 72
      · subst e; rw [hl, dg_len]
      · rw [Array.getElem?_eq_none (by omega), Array.getElem?_eq_none (by rw [dg_size]; omega)]

theorem dg_setLen (s f : Nat → Int) (n n' : Int) : (dg s f n).setIfInBounds 72 (.int .u64 n') = dg s f n' := by
  refine dg_ext (s := s) (f := f) (n := n) _ (by simp [dg_size]) ?_ ?_ ?_
  · intro i hi; rw [Array.getElem?_setIfInBounds_ne (by omega), dg_word _ _ _ i hi]
  · intro j hj; rw [Array.getElem?_setIfInBounds_ne (by omega), dg_byte _ _ _ j hj]
  · rw [Array.getElem?_setIfInBounds_self_of_lt (by rw [dg_size]; omega)]
theorem dg_set8 (s f g : Nat → Int) (n : Int) (v0 v1 v2 v3 v4 v5 v6 v7 : Int) (e0 : v0 = g 0) (e1 : v1 = g 1) (e2 : v2 = g 2) (e3 : v3 = g 3) (e4 : v4 = g 4) (e5 : v5 = g 5) (e6 : v6 = g 6) (e7 : v7 = g 7) :
    ((((((((dg s f n).setIfInBounds 0 (.int .u32 v0)).setIfInBounds 1 (.int .u32 v1)).setIfInBounds 2 (.int .u32 v2)).setIfInBounds 3 (.int .u32 v3)).setIfInBounds 4 (.int .u32 v4)).setIfInBounds 5 (.int .u32 v5)).setIfInBounds 6 (.int .u32 v6)).setIfInBounds 7 (.int .u32 v7) = dg g f n := by
  refine dg_ext (s := s) (f := f) (n := n) _ (by simp [dg_size]) ?_ ?_ ?_
  · intro i hi
    rcases (by omega : i = 0 ∨ i = 1 ∨ i = 2 ∨ i = 3 ∨ i = 4 ∨ i = 5 ∨ i = 6 ∨ i = 7) with h | h | h | h | h | h | h | h
    all_goals
      subst h
      simp [dg_size, *]
  · intro j hj
    rw [Array.getElem?_setIfInBounds_ne (by omega), Array.getElem?_setIfInBounds_ne (by omega), Array.getElem?_setIfInBounds_ne (by omega), Array.getElem?_setIfInBounds_ne (by omega), Array.getElem?_setIfInBounds_ne (by omega), Array.getElem?_setIfInBounds_ne (by omega), Array.getElem?_setIfInBounds_ne (by omega), Array.getElem?_setIfInBounds_ne (by omega), dg_byte _ _ _ j hj]
  · rw [Array.getElem?_setIfInBounds_ne (by omega), Array.getElem?_setIfInBounds_ne (by omega), Array.getElem?_setIfInBounds_ne (by omega), Array.getElem?_setIfInBounds_ne (by omega), Array.getElem?_setIfInBounds_ne (by omega), Array.getElem?_setIfInBounds_ne (by omega), Array.getElem?_setIfInBounds_ne (by omega), Array.getElem?_setIfInBounds_ne (by omega), dg_len]
theorem dg_range {w : World} {g : Nat} {s f : Nat → Int} {n : Int} {t : TypeId} (h : w.heap[g]? = some (.cells (dg s f n) t)) : w.rangeAt g 8 ((List.range 64).map fun i => Value.int .u8 (f i)) := by
  intro j v hj
  have hlt : j < 64 := by
    have := (List.getElem?_eq_some_iff.1 hj).1
    simpa using this
  rw [row_cell h, dg_byte _ _ _ j hlt]
  simp [hlt] at hj
  rw [hj]
theorem dg_load_block {w : World} {g : Nat} {s f : Nat → Int} {n : Int} {t : TypeId} (h : w.heap[g]? = some (.cells (dg s f n) t)) : (Instr.loadAt 81 (.pointer (some ⟨g, 8, none⟩))).run Tryd.prog w = .ok (.agg (vs .u8 64 f)) w :=
  run_loadAt_mid w g 8 81 _ _ (dg_range h) Tryd.underlying81 rfl (by rw [List.length_map, List.length_range]; kernel_rfl)
theorem row8' {b : Nat} {w' : World} {c : Array Value} {t : TypeId} (hr : w'.heap[b]? = some (.cells c t)) (v0 v1 v2 v3 v4 v5 v6 v7 : Value) :
    ((((((((w'.setCell ⟨b, 0, none⟩ v0).setCell ⟨b, 1, none⟩ v1).setCell ⟨b, 2, none⟩ v2).setCell ⟨b, 3, none⟩ v3).setCell ⟨b, 4, none⟩ v4).setCell ⟨b, 5, none⟩ v5).setCell ⟨b, 6, none⟩ v6).setCell ⟨b, 7, none⟩ v7).heap[b]? = some (.cells ((((((((c.setIfInBounds 0 v0).setIfInBounds 1 v1).setIfInBounds 2 v2).setIfInBounds 3 v3).setIfInBounds 4 v4).setIfInBounds 5 v5).setIfInBounds 6 v6).setIfInBounds 7 v7) t) :=
  row_set (row_set (row_set (row_set (row_set (row_set (row_set (row_set hr 0 v0) 1 v1) 2 v2) 3 v3) 4 v4) 5 v5) 6 v6) 7 v7

theorem range_set8 {w : World} {g : Nat} {s f : Nat → Int} {n : Int} {t : TypeId} (h : w.heap[g]? = some (.cells (dg s f n) t)) (v0 v1 v2 v3 v4 v5 v6 v7 : Int) :
    ((((((((w.setCell ⟨g, 0, none⟩ (.int .u32 v0)).setCell ⟨g, 1, none⟩ (.int .u32 v1)).setCell ⟨g, 2, none⟩ (.int .u32 v2)).setCell ⟨g, 3, none⟩ (.int .u32 v3)).setCell ⟨g, 4, none⟩ (.int .u32 v4)).setCell ⟨g, 5, none⟩ (.int .u32 v5)).setCell ⟨g, 6, none⟩ (.int .u32 v6)).setCell ⟨g, 7, none⟩ (.int .u32 v7)).rangeAt g 8 ((List.range 64).map fun i => Value.int .u8 (f i)) :=
  dg_range (s := fun i => [v0, v1, v2, v3, v4, v5, v6, v7].getD i 0) ((row8' h _ _ _ _ _ _ _ _).trans (congrArg (fun c => some (Obj.cells c t)) (dg_set8 s f _ n v0 v1 v2 v3 v4 v5 v6 v7 rfl rfl rfl rfl rfl rfl rfl rfl)))

/-- The words behind q full blocks of the message m. -/
def hsh (K H m : Nat → Int) : Nat → Nat → Int
  | 0 => H
  | q + 1 => comp K (fun j => m (64 * q + j)) (hsh K H m q)
theorem hsh_bd (K H m : Nat → Int) (hH : ∀ i, i < 8 → 0 ≤ H i ∧ H i < 4294967296) (q : Nat) : ∀ i, i < 8 → 0 ≤ hsh K H m q i ∧ hsh K H m q i < 4294967296 := by
  cases q with
  | zero => exact hH
  | succ q => exact fun i _ => comp_bd _ _ _ _
theorem hsh_congr {K H m m' : Nat → Int} (q : Nat) (h : ∀ i, i < 64 * q → m i = m' i) : ∀ i, i < 8 → hsh K H m q i = hsh K H m' q i := by
  induction q with
  | zero => exact fun _ _ => rfl
  | succ q ih =>
    intro i hi
    exact comp_congr (fun j hj => h _ (by omega)) (ih (fun j hj => h j (by omega))) i hi

/-- s, f: the digest of the first L bytes of m. -/
structure Dig (K H m : Nat → Int) (L : Nat) (s f : Nat → Int) : Prop where
  words : ∀ i, i < 8 → s i = hsh K H m (L / 64) i
  bytes : ∀ j, j < L % 64 → f j = m (64 * (L / 64) + j)
  range : ∀ j, j < 64 → 0 ≤ f j ∧ f j < 256
  start : ∀ i, i < 8 → 0 ≤ H i ∧ H i < 4294967296
theorem Dig.bd {K H m : Nat → Int} {L : Nat} {s f : Nat → Int} (h : Dig K H m L s f) : ∀ i, i < 8 → 0 ≤ s i ∧ s i < 4294967296 := fun i hi => by
  rw [h.words i hi]; exact hsh_bd K H m h.start _ i hi
theorem Dig.congr {K H m m' : Nat → Int} {L : Nat} {s f : Nat → Int} (h : Dig K H m L s f) (hm : ∀ i, i < L → m i = m' i) : Dig K H m' L s f :=
  ⟨fun i hi => by rw [h.words i hi, hsh_congr (L / 64) (fun j hj => hm j (by omega)) i hi], fun j hj => by rw [h.bytes j hj, hm _ (by omega)], h.range, h.start⟩

/-- What lies in the block when z is laid over it from place p on, c bytes. -/
def over (f z : Nat → Int) (p c : Nat) (j : Nat) : Int := if p ≤ j ∧ j < p + c then z (j - p) else f j
theorem over_bd {f z : Nat → Int} {p c : Nat} (hf : ∀ j, j < 64 → 0 ≤ f j ∧ f j < 256) (hz : ∀ j, j < c → 0 ≤ z j ∧ z j < 256) : ∀ j, j < 64 → 0 ≤ over f z p c j ∧ over f z p c j < 256 := by
  intro j hj
  unfold over
  by_cases h : p ≤ j ∧ j < p + c
  · rw [if_pos h]; exact hz _ (by omega)
  · rw [if_neg h]; exact hf j hj

theorem Dig.part {K H m : Nat → Int} {L : Nat} {s f z : Nat → Int} (h : Dig K H m L s f) (c : Nat) (hc : L % 64 + c < 64) (hz : ∀ j, j < c → z j = m (L + j)) (hr : ∀ j, j < c → 0 ≤ z j ∧ z j < 256) : Dig K H m (L + c) s (over f z (L % 64) c) := by
  have e : (L + c) / 64 = L / 64 := by omega
  refine ⟨fun i hi => by rw [e]; exact h.words i hi, fun j hj => ?_, over_bd h.range hr, h.start⟩
  rw [e]
  unfold over
  by_cases hp : L % 64 ≤ j ∧ j < L % 64 + c
  · rw [if_pos hp, hz _ (by omega)]
    congr 1
    omega
  · rw [if_neg hp]
    exact h.bytes j (by omega)
theorem Dig.full {K H m : Nat → Int} {L : Nat} {s f z : Nat → Int} (h : Dig K H m L s f) (c : Nat) (hc : L % 64 + c = 64) (hz : ∀ j, j < c → z j = m (L + j)) (hr : ∀ j, j < c → 0 ≤ z j ∧ z j < 256) : Dig K H m (L + c) (comp K (over f z (L % 64) c) s) (over f z (L % 64) c) := by
  have e : (L + c) / 64 = L / 64 + 1 := by omega
  refine ⟨fun i hi => ?_, fun j hj => absurd hj (by omega), over_bd h.range hr, h.start⟩
  rw [e]
  refine comp_congr (fun j hj => ?_) h.words i hi
  unfold over
  by_cases hp : L % 64 ≤ j ∧ j < L % 64 + c
  · rw [if_pos hp, hz _ (by omega)]
    congr 1
    omega
  · rw [if_neg hp]
    exact h.bytes j (by omega)

/-- Nothing but block g has turned. -/
structure Kept (g : Nat) (w w' : World) : Prop where
  os : w'.os = w.os
  tape : w'.tape = w.tape
  output : w'.output = w.output
  size : w.heap.size ≤ w'.heap.size
  block : ∀ k, k < w.heap.size → k ≠ g → w'.heap[k]? = w.heap[k]?
theorem Kept.refl (g : Nat) (w : World) : Kept g w w := ⟨rfl, rfl, rfl, Nat.le_refl _, fun _ _ _ => rfl⟩
theorem Kept.trans {g : Nat} {a b c : World} (h : Kept g a b) (k : Kept g b c) : Kept g a c :=
  ⟨k.os.trans h.os, k.tape.trans h.tape, k.output.trans h.output, Nat.le_trans h.size k.size, fun i hi hn => (k.block i (Nat.lt_of_lt_of_le hi h.size) hn).trans (h.block i hi hn)⟩
theorem Kept.ofBelow {g : Nat} {a b : World} (h : Below a.heap.size a b) : Kept g a b := ⟨h.os, h.tape, h.output, h.size, fun i hi _ => h.block i hi⟩
theorem Kept.drew {g : Nat} {a b : World} (h : Kept g a b) : Kept g a b.drew := ⟨h.os, h.tape, h.output, h.size, h.block⟩
theorem Kept.setRow {g : Nat} {a b : World} (h : Kept g a b) (c : Array Value) : Kept g a (b.setRow g c) :=
  h.trans ⟨rfl, rfl, rfl, by simp, fun k _ hk => setRow_other b g k c hk⟩
theorem Kept.setCell {g : Nat} {a b : World} (h : Kept g a b) (i : Nat) (v : Value) : Kept g a (b.setCell ⟨g, i, none⟩ v) :=
  h.trans ⟨rfl, rfl, rfl, by simp [World.setCell], fun k _ hk => heap_set_other hk⟩
theorem Kept.below {g : Nat} {a b : World} (h : Kept g a b) {B : Nat} (hB : B ≤ g) (hB' : B ≤ a.heap.size) : Below B a b := ⟨h.os, h.tape, h.output, h.size, fun k hk => h.block k (by omega) (by omega)⟩
theorem Kept.cell {g : Nat} {a b : World} (h : Kept g a b) {k i : Nat} (hk : k < a.heap.size) (hn : k ≠ g) : b.cell? ⟨k, i, none⟩ = a.cell? ⟨k, i, none⟩ := World.cell?_of_block (w := a) (h.block k hk hn)
theorem Kept.tab {g : Nat} {a b : World} (h : Kept g a b) {k n : Nat} {f : Nat → Int} (ht : Tab a k n f) (hn : k ≠ g) : Tab b k n f :=
  ⟨Nat.lt_of_lt_of_le ht.1 h.size, fun i hi => (h.cell ht.1 hn).trans (ht.2 i hi)⟩

/-- A copy whose run is known, at a step of a region that draws its order. -/
theorem step_copy_is {P : Program} {ops : Array Oper} {o : Oper} {a : Act} {w : World} {K : Act → World → Prop} {Q : Exit → Act → World → Prop} {E : Prop} (hgd : o.guard = none) (d s : Operand) (dT sT : TypeId)
    (ho : o.op = .call { callee := .builtin .copy, args := #[d, s], argTypes := #[dT, sT] }) (vd vx v : Value) (w' : World) (hd : a.eval d = vd) (hs : a.eval s = vx)
    (hrun : ∀ ty, (Builtin.copy_ #[dT, sT] ty #[vd, vx]).run P w = .ok v w') (h : K (a.put o.dst v) w') :
    if Region.wanted o (yielded ops a.tmps) = true then Oper.wp P o a w K Q else E := by
  have hw : Region.wanted o (yielded ops a.tmps) = true := by simp [Region.wanted, hgd]
  rw [if_pos hw]
  unfold Oper.wp execOp
  simp only [ho, resolve, invoke, builtin, Sem.run_bind, Sem.run_pure, Result.andThen_ok, List.map_toArray, List.map_cons, List.map_nil, hd, hs, hrun]
  exact h

theorem step_load_is {P : Program} {ops : Array Oper} {o : Oper} {a : Act} {w : World} {K : Act → World → Prop} {Q : Exit → Act → World → Prop} {E : Prop} (hgd : o.guard = none) (ty : TypeId) (x : Operand) (ho : o.op = .load ty x) (vx v : Value) (hx : a.eval x = vx)
    (hrun : (Instr.loadAt ty vx).run P w = .ok v w) (h : K (a.put o.dst v) w) :
    if Region.wanted o (yielded ops a.tmps) = true then Oper.wp P o a w K Q else E := by
  have hw : Region.wanted o (yielded ops a.tmps) = true := by simp [Region.wanted, hgd]
  rw [if_pos hw]
  unfold Oper.wp execOp
  simp only [ho, hx, hrun, Sem.run_bind, Result.andThen_ok, Sem.run_pure]
  exact h
theorem wpStill_load_is {P : Program} {ops : Array Oper} {w : World} {Q : Act → Prop} {o : Oper} {rest : List Oper} {a : Act} (hg : o.guard = none) (ty : TypeId) (x : Operand) (ho : o.op = .load ty x) (vx v : Value) (hx : a.eval x = vx)
    (hrun : (Instr.loadAt ty vx).run P w = .ok v w) (h : wpStill P ops w Q rest (a.put o.dst v)) : wpStill P ops w Q (o :: rest) a := by
  have hw : Region.wanted o (yielded ops a.tmps) = true := by simp [Region.wanted, hg]
  unfold wpStill
  rw [if_pos hw]
  unfold Oper.still execOp
  simp only [ho, hx, hrun, Sem.run_bind, Result.andThen_ok, Sem.run_pure, Oper.stillUpon]
  exact ⟨trivial, h⟩
theorem dg_load_words {w : World} {g : Nat} {s f : Nat → Int} {n : Int} {t : TypeId} (h : w.heap[g]? = some (.cells (dg s f n) t)) : (Instr.loadAt 80 (.pointer (some ⟨g, 0, none⟩))).run Tryd.prog w = .ok (.agg (vs .u32 8 s)) w := by
  have hr : w.rangeAt g 0 ((List.range 8).map fun i => Value.int .u32 (s i)) := by
    intro j v hj
    have hlt : j < 8 := by
      have := (List.getElem?_eq_some_iff.1 hj).1
      simpa using this
    rw [row_cell h, Nat.zero_add, dg_word _ _ _ j hlt]
    simp [hlt] at hj
    rw [hj]
  exact run_loadAt_mid w g 0 80 _ _ hr Tryd.underlying80 rfl (by rw [List.length_map, List.length_range]; kernel_rfl)

/-- The bytes copied into the digest's block. -/
theorem copy_in (W : World) (g : Nat) (s f z : Nat → Int) (n : Int) (p c : Nat) (x : Addr) (len cap dcap : Nat) (hg : W.heap[g]? = some (.cells (dg s f n) 83)) (hp : p + c ≤ 64) (hc : c = Nat.min len (64 - p)) (hx : ∀ j, j < c → W.cell? (x.add j) = some (.int .u8 (z j))) :
    ∀ ty, (Builtin.copy_ #[75, 75] ty #[.slice (some ⟨g, 8 + p, none⟩) (64 - p) dcap, .slice (some x) len cap]).run Tryd.prog W = .ok (.int .i64 c) (W.setRow g (dg s (over f z p c) n)) := by
  intro ty
  have hrun := run_copy_row (P := Tryd.prog) W 75 75 ty 5 g (8 + p) (64 - p) dcap x len cap (dg s f n) 83 ((vs .u8 c z).toList) Tryd.underlying75 (by kernel_rfl) hg (by rw [Array.length_toList, vs_size]; exact hc)
    (fun j v hj => by
      rw [Array.getElem?_toList] at hj
      have hlt : j < c := by
        by_cases h : j < c
        · exact h
        · rw [vs_get_none _ _ _ _ (by omega)] at hj; cases hj
      rw [vs_get _ _ _ _ hlt] at hj
      cases hj
      exact hx j hlt)
    (by rw [Array.length_toList, vs_size, dg_size]; omega) (fun v hv => by
      rw [Array.mem_toList_iff] at hv
      exact (Array.all_eq_true_iff_forall_mem.1 (vs_one _ _ _)) v hv)
  rw [hrun, Array.length_toList, vs_size]
  have e : ((dg s f n).toList.take (8 + p) ++ ((vs .u8 c z).toList ++ (dg s f n).toList.drop (8 + p + c))).toArray = dg s (over f z p c) n := by
    refine dg_ext (s := s) (f := f) (n := n) _ ?_ ?_ ?_ ?_
    · simp [dg_size, vs_size]; omega
    · intro i hi
      rw [List.getElem?_toArray, List.getElem?_append_left (by simp [dg_size]; omega), List.getElem?_take_of_lt (by omega), Array.getElem?_toList, dg_word _ _ _ i hi]
    · intro j hj
      rw [List.getElem?_toArray]
      unfold over
      by_cases h1 : j < p
      · rw [if_neg (by omega), List.getElem?_append_left (by simp [dg_size]; omega), List.getElem?_take_of_lt (by omega), Array.getElem?_toList, dg_byte _ _ _ j hj]
      · rw [List.getElem?_append_right (by simp [dg_size]; omega)]
        by_cases h2 : j < p + c
        · rw [if_pos (by omega), List.getElem?_append_left (by simp [dg_size, vs_size]; omega), Array.getElem?_toList, vs_get _ _ _ _ (by simp [dg_size]; omega)]
          simp [dg_size]
          exact congrArg z (by omega)
        · rw [if_neg (by omega), List.getElem?_append_right (by simp [dg_size, vs_size]; omega), List.getElem?_drop, Array.getElem?_toList]
          rw [show 8 + p + c + (8 + j - ((dg s f n).toList.take (8 + p)).length - (vs .u8 c z).toList.length) = 8 + j by simp [dg_size, vs_size]; omega, dg_byte _ _ _ j hj]
    · rw [List.getElem?_toArray, List.getElem?_append_right (by simp [dg_size]; omega), List.getElem?_append_right (by simp [dg_size, vs_size]; omega), List.getElem?_drop, Array.getElem?_toList]
      rw [show 8 + p + c + (72 - ((dg s f n).toList.take (8 + p)).length - (vs .u8 c z).toList.length) = 72 by simp [dg_size, vs_size]; omega, dg_len]
  rw [List.append_assoc, e]
  rfl

end Go.Proofs.YtjimdkpppgjokaaDoor
