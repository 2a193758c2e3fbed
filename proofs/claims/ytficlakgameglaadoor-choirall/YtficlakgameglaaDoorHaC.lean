/-
  A digest in memory, and what it is a digest of.
  What Write does to a digest.
  What New makes, and what pad writes.
  What rootOf answers: words as bytes.
  What a digest's Sum and Copy answer; what is left alone by a nil digest, and by writing nothing.
  What sha.Sum and sha.Two answer.
-/
import Derived.Test.YtficlakgameglaaDoorHaB
import Derived.Test.YtficlakgameglaaDoorHaA
import Derived.Laws.IdiomCopy
import Derived.Laws.CopyOwn
import Derived.StillTailTactics
import Derived.Deep.RegionWith
namespace Go.Proofs.YtficlakgameglaaDoor

open Go.RowKit

set_option linter.unusedVariables false

/-- The cells of a digest. -/
def dg (s f : Nat → Int) (n : Int) : Array Value := vs .u32 8 s ++ vs .u8 64 f ++ #[.int .u64 n]

theorem dg_size (s f : Nat → Int) (n : Int) : (dg s f n).size = 73 := by simp [dg, vs_size]

theorem dg_word (s f : Nat → Int) (n : Int) (i : Nat) (h : i < 8) : (dg s f n)[i]? = some (.int .u32 (s i)) := by
  unfold dg
  rw [Array.getElem?_append_left (by simp [vs_size]; omega), Array.getElem?_append_left (by simp [vs_size]; omega), vs_get _ _ _ _ h]

theorem dg_byte (s f : Nat → Int) (n : Int) (j : Nat) (h : j < 64) : (dg s f n)[8 + j]? = some (.int .u8 (f j)) := by
  unfold dg
  rw [Array.getElem?_append_left (by simp [vs_size]; omega), Array.getElem?_append_right (by simp [vs_size]), vs_size, show 8 + j - 8 = j by omega, vs_get _ _ _ _ h]

theorem dg_len (s f : Nat → Int) (n : Int) : (dg s f n)[72]? = some (.int .u64 n) := by
  unfold dg
  rw [Array.getElem?_append_right (by simp [vs_size])]
  simp [vs_size]

theorem dg_ext {s f s' f' : Nat → Int} {n n' : Int} (c : Array Value) (hc : c.size = 73) (hw : ∀ i, i < 8 → c[i]? = some (.int .u32 (s' i))) (hb : ∀ j, j < 64 → c[8 + j]? = some (.int .u8 (f' j))) (hl : c[72]? = some (.int .u64 n')) : c = dg s' f' n' := by
  apply Array.ext_getElem?
  intro i
  by_cases h8 : i < 8
  · rw [hw i h8, dg_word _ _ _ i h8]
  · by_cases h72 : i < 72
    · have e : i = 8 + (i - 8) := by omega
      rw [e, hb (i - 8) (by omega), dg_byte _ _ _ _ (by omega)]
    · by_cases e : i = 72
      · subst e; rw [hl, dg_len]
      · rw [Array.getElem?_eq_none (by omega), Array.getElem?_eq_none (by rw [dg_size]; omega)]

theorem dg_setLen (s f : Nat → Int) (n n' : Int) : (dg s f n).setIfInBounds 72 (.int .u64 n') = dg s f n' := by
  refine dg_ext (s := s) (f := f) (n := n) _ (by simp [dg_size]) ?_ ?_ ?_
  · intro i hi; rw [Array.getElem?_setIfInBounds_ne (by omega), dg_word _ _ _ i hi]
  · intro j hj; rw [Array.getElem?_setIfInBounds_ne (by omega), dg_byte _ _ _ j hj]
  · rw [Array.getElem?_setIfInBounds_self_of_lt (by rw [dg_size]; omega)]

theorem dg_set8 (s f g : Nat → Int) (n : Int) (v0 v1 v2 v3 v4 v5 v6 v7 : Int) (e0 : v0 = g 0) (e1 : v1 = g 1) (e2 : v2 = g 2) (e3 : v3 = g 3) (e4 : v4 = g 4) (e5 : v5 = g 5) (e6 : v6 = g 6) (e7 : v7 = g 7) :
    ((((((((dg s f n).setIfInBounds 0 (.int .u32 v0)).setIfInBounds 1 (.int .u32 v1)).setIfInBounds 2 (.int .u32 v2)).setIfInBounds 3 (.int .u32 v3)).setIfInBounds 4 (.int .u32 v4)).setIfInBounds 5 (.int .u32 v5)).setIfInBounds 6 (.int .u32 v6)).setIfInBounds 7 (.int .u32 v7) = dg g f n := by
  refine dg_ext (s := s) (f := f) (n := n) _ (by simp [dg_size]) ?_ ?_ ?_
  · intro i hi
    rcases (by omega : i = 0 ∨ i = 1 ∨ i = 2 ∨ i = 3 ∨ i = 4 ∨ i = 5 ∨ i = 6 ∨ i = 7) with h | h | h | h | h | h | h | h
    all_goals
      subst h
      simp [dg_size, *]
  · intro j hj
    rw [Array.getElem?_setIfInBounds_ne (by omega), Array.getElem?_setIfInBounds_ne (by omega), Array.getElem?_setIfInBounds_ne (by omega), Array.getElem?_setIfInBounds_ne (by omega), Array.getElem?_setIfInBounds_ne (by omega), Array.getElem?_setIfInBounds_ne (by omega), Array.getElem?_setIfInBounds_ne (by omega), Array.getElem?_setIfInBounds_ne (by omega), dg_byte _ _ _ j hj]
  · rw [Array.getElem?_setIfInBounds_ne (by omega), Array.getElem?_setIfInBounds_ne (by omega), Array.getElem?_setIfInBounds_ne (by omega), Array.getElem?_setIfInBounds_ne (by omega), Array.getElem?_setIfInBounds_ne (by omega), Array.getElem?_setIfInBounds_ne (by omega), Array.getElem?_setIfInBounds_ne (by omega), Array.getElem?_setIfInBounds_ne (by omega), dg_len]

theorem dg_range {w : World} {g : Nat} {s f : Nat → Int} {n : Int} {t : TypeId} (h : w.heap[g]? = some (.cells (dg s f n) t)) : w.rangeAt g 8 ((List.range 64).map fun i => Value.int .u8 (f i)) := by
  intro j v hj
  have hlt : j < 64 := by
    have := (List.getElem?_eq_some_iff.1 hj).1
    simpa using this
  rw [row_cell h, dg_byte _ _ _ j hlt]
  simp [hlt] at hj
  rw [hj]

theorem dg_load_block {w : World} {g : Nat} {s f : Nat → Int} {n : Int} {t : TypeId} (h : w.heap[g]? = some (.cells (dg s f n) t)) : (Instr.loadAt 137 (.pointer (some ⟨g, 8, none⟩))).run Tryd.prog w = .ok (.agg (vs .u8 64 f)) w :=
  run_loadAt_mid w g 8 137 _ _ (dg_range h) Tryd.underlying137 rfl (by rw [List.length_map, List.length_range]; kernel_rfl)

theorem row8' {b : Nat} {w' : World} {c : Array Value} {t : TypeId} (hr : w'.heap[b]? = some (.cells c t)) (v0 v1 v2 v3 v4 v5 v6 v7 : Value) :
    ((((((((w'.setCell ⟨b, 0, none⟩ v0).setCell ⟨b, 1, none⟩ v1).setCell ⟨b, 2, none⟩ v2).setCell ⟨b, 3, none⟩ v3).setCell ⟨b, 4, none⟩ v4).setCell ⟨b, 5, none⟩ v5).setCell ⟨b, 6, none⟩ v6).setCell ⟨b, 7, none⟩ v7).heap[b]? = some (.cells ((((((((c.setIfInBounds 0 v0).setIfInBounds 1 v1).setIfInBounds 2 v2).setIfInBounds 3 v3).setIfInBounds 4 v4).setIfInBounds 5 v5).setIfInBounds 6 v6).setIfInBounds 7 v7) t) :=
  row_set (row_set (row_set (row_set (row_set (row_set (row_set (row_set hr 0 v0) 1 v1) 2 v2) 3 v3) 4 v4) 5 v5) 6 v6) 7 v7

/-- The words behind q full blocks of the message m. -/
def hsh (K H m : Nat → Int) : Nat → Nat → Int
  | 0 => H
  | q + 1 => comp K (fun j => m (64 * q + j)) (hsh K H m q)

theorem hsh_bd (K H m : Nat → Int) (hH : ∀ i, i < 8 → 0 ≤ H i ∧ H i < 4294967296) (q : Nat) : ∀ i, i < 8 → 0 ≤ hsh K H m q i ∧ hsh K H m q i < 4294967296 := by
  cases q with
  | zero => exact hH
  | succ q => exact fun i _ => comp_bd _ _ _ _

theorem hsh_congr {K H m m' : Nat → Int} (q : Nat) (h : ∀ i, i < 64 * q → m i = m' i) : ∀ i, i < 8 → hsh K H m q i = hsh K H m' q i := by
  induction q with
  | zero => exact fun _ _ => rfl
  | succ q ih =>
    intro i hi
    exact comp_congr (fun j hj => h _ (by omega)) (ih (fun j hj => h j (by omega))) i hi

/-- s, f: the digest of the first L bytes of m. -/
structure Dig (K H m : Nat → Int) (L : Nat) (s f : Nat → Int) : Prop where
  words : ∀ i, i < 8 → s i = hsh K H m (L / 64) i
  bytes : ∀ j, j < L % 64 → f j = m (64 * (L / 64) + j)
  range : ∀ j, j < 64 → 0 ≤ f j ∧ f j < 256
  start : ∀ i, i < 8 → 0 ≤ H i ∧ H i < 4294967296

theorem Dig.bd {K H m : Nat → Int} {L : Nat} {s f : Nat → Int} (h : Dig K H m L s f) : ∀ i, i < 8 → 0 ≤ s i ∧ s i < 4294967296 := fun i hi => by
  rw [h.words i hi]; exact hsh_bd K H m h.start _ i hi

theorem Dig.congr {K H m m' : Nat → Int} {L : Nat} {s f : Nat → Int} (h : Dig K H m L s f) (hm : ∀ i, i < L → m i = m' i) : Dig K H m' L s f :=
  ⟨fun i hi => by rw [h.words i hi, hsh_congr (L / 64) (fun j hj => hm j (by omega)) i hi], fun j hj => by rw [h.bytes j hj, hm _ (by omega)], h.range, h.start⟩

/-- What lies in the block when z is laid over it from place p on, c bytes. -/
def over (f z : Nat → Int) (p c : Nat) (j : Nat) : Int := if p ≤ j ∧ j < p + c then z (j - p) else f j

theorem over_bd {f z : Nat → Int} {p c : Nat} (hf : ∀ j, j < 64 → 0 ≤ f j ∧ f j < 256) (hz : ∀ j, j < c → 0 ≤ z j ∧ z j < 256) : ∀ j, j < 64 → 0 ≤ over f z p c j ∧ over f z p c j < 256 := by
  intro j hj
  unfold over
  by_cases h : p ≤ j ∧ j < p + c
  · rw [if_pos h]; exact hz _ (by omega)
  · rw [if_neg h]; exact hf j hj

theorem Dig.part {K H m : Nat → Int} {L : Nat} {s f z : Nat → Int} (h : Dig K H m L s f) (c : Nat) (hc : L % 64 + c < 64) (hz : ∀ j, j < c → z j = m (L + j)) (hr : ∀ j, j < c → 0 ≤ z j ∧ z j < 256) : Dig K H m (L + c) s (over f z (L % 64) c) := by
  have e : (L + c) / 64 = L / 64 := by omega
  refine ⟨fun i hi => by rw [e]; exact h.words i hi, fun j hj => ?_, over_bd h.range hr, h.start⟩
  rw [e]
  unfold over
  by_cases hp : L % 64 ≤ j ∧ j < L % 64 + c
  · rw [if_pos hp, hz _ (by omega)]
    congr 1
    omega
  · rw [if_neg hp]
    exact h.bytes j (by omega)

theorem Dig.full {K H m : Nat → Int} {L : Nat} {s f z : Nat → Int} (h : Dig K H m L s f) (c : Nat) (hc : L % 64 + c = 64) (hz : ∀ j, j < c → z j = m (L + j)) (hr : ∀ j, j < c → 0 ≤ z j ∧ z j < 256) : Dig K H m (L + c) (comp K (over f z (L % 64) c) s) (over f z (L % 64) c) := by
  have e : (L + c) / 64 = L / 64 + 1 := by omega
  refine ⟨fun i hi => ?_, fun j hj => absurd hj (by omega), over_bd h.range hr, h.start⟩
  rw [e]
  refine comp_congr (fun j hj => ?_) h.words i hi
  unfold over
  by_cases hp : L % 64 ≤ j ∧ j < L % 64 + c
  · rw [if_pos hp, hz _ (by omega)]
    congr 1
    omega
  · rw [if_neg hp]
    exact h.bytes j (by omega)

/-- Nothing but block g has turned. -/
structure Kept (g : Nat) (w w' : World) : Prop where
  os : w'.os = w.os
  tape : w'.tape = w.tape
  output : w'.output = w.output
  size : w.heap.size ≤ w'.heap.size
  block : ∀ k, k < w.heap.size → k ≠ g → w'.heap[k]? = w.heap[k]?

theorem Kept.refl (g : Nat) (w : World) : Kept g w w := ⟨rfl, rfl, rfl, Nat.le_refl _, fun _ _ _ => rfl⟩

theorem Kept.trans {g : Nat} {a b c : World} (h : Kept g a b) (k : Kept g b c) : Kept g a c :=
  ⟨k.os.trans h.os, k.tape.trans h.tape, k.output.trans h.output, Nat.le_trans h.size k.size, fun i hi hn => (k.block i (Nat.lt_of_lt_of_le hi h.size) hn).trans (h.block i hi hn)⟩

theorem Kept.ofBelow {g : Nat} {a b : World} (h : Below a.heap.size a b) : Kept g a b := ⟨h.os, h.tape, h.output, h.size, fun i hi _ => h.block i hi⟩

theorem Kept.drew {g : Nat} {a b : World} (h : Kept g a b) : Kept g a b.drew := ⟨h.os, h.tape, h.output, h.size, h.block⟩

theorem Kept.setRow {g : Nat} {a b : World} (h : Kept g a b) (c : Array Value) : Kept g a (b.setRow g c) :=
  h.trans ⟨rfl, rfl, rfl, by simp, fun k _ hk => setRow_other b g k c hk⟩

theorem Kept.setCell {g : Nat} {a b : World} (h : Kept g a b) (i : Nat) (v : Value) : Kept g a (b.setCell ⟨g, i, none⟩ v) :=
  h.trans ⟨rfl, rfl, rfl, by simp [World.setCell], fun k _ hk => heap_set_other hk⟩

theorem Kept.below {g : Nat} {a b : World} (h : Kept g a b) {B : Nat} (hB : B ≤ g) (hB' : B ≤ a.heap.size) : Below B a b := ⟨h.os, h.tape, h.output, h.size, fun k hk => h.block k (by omega) (by omega)⟩

theorem Kept.cell {g : Nat} {a b : World} (h : Kept g a b) {k i : Nat} (hk : k < a.heap.size) (hn : k ≠ g) : b.cell? ⟨k, i, none⟩ = a.cell? ⟨k, i, none⟩ := World.cell?_of_block (w := a) (h.block k hk hn)

theorem Kept.tab {g : Nat} {a b : World} (h : Kept g a b) {k n : Nat} {f : Nat → Int} (ht : Tab a k n f) (hn : k ≠ g) : Tab b k n f :=
  ⟨Nat.lt_of_lt_of_le ht.1 h.size, fun i hi => (h.cell ht.1 hn).trans (ht.2 i hi)⟩

/-- A copy whose run is known, at a step of a region that draws its order. -/
theorem step_copy_is {P : Program} {ops : Array Oper} {o : Oper} {a : Act} {w : World} {K : Act → World → Prop} {Q : Exit → Act → World → Prop} {E : Prop} (hgd : o.guard = none) (d s : Operand) (dT sT : TypeId)
    (ho : o.op = .call { callee := .builtin .copy, args := #[d, s], argTypes := #[dT, sT] }) (vd vx v : Value) (w' : World) (hd : a.eval d = vd) (hs : a.eval s = vx)
    (hrun : ∀ ty, (Builtin.copy_ #[dT, sT] ty #[vd, vx]).run P w = .ok v w') (h : K (a.put o.dst v) w') :
    if Region.wanted o (yielded ops a.tmps) = true then Oper.wp P o a w K Q else E := by
  have hw : Region.wanted o (yielded ops a.tmps) = true := by simp [Region.wanted, hgd]
  rw [if_pos hw]
  unfold Oper.wp execOp
  simp only [ho, resolve, invoke, builtin, Sem.run_bind, Sem.run_pure, Result.andThen_ok, List.map_toArray, List.map_cons, List.map_nil, hd, hs, hrun]
  exact h

theorem dg_load_words {w : World} {g : Nat} {s f : Nat → Int} {n : Int} {t : TypeId} (h : w.heap[g]? = some (.cells (dg s f n) t)) : (Instr.loadAt 136 (.pointer (some ⟨g, 0, none⟩))).run Tryd.prog w = .ok (.agg (vs .u32 8 s)) w := by
  have hr : w.rangeAt g 0 ((List.range 8).map fun i => Value.int .u32 (s i)) := by
    intro j v hj
    have hlt : j < 8 := by
      have := (List.getElem?_eq_some_iff.1 hj).1
      simpa using this
    rw [row_cell h, Nat.zero_add, dg_word _ _ _ j hlt]
    simp [hlt] at hj
    rw [hj]
  exact run_loadAt_mid w g 0 136 _ _ hr Tryd.underlying136 rfl (by rw [List.length_map, List.length_range]; kernel_rfl)

/-- The bytes copied into the digest's block. -/
theorem copy_in (W : World) (g : Nat) (s f z : Nat → Int) (n : Int) (p c : Nat) (x : Addr) (len cap dcap : Nat) (hg : W.heap[g]? = some (.cells (dg s f n) 139)) (hp : p + c ≤ 64) (hc : c = Nat.min len (64 - p)) (hx : ∀ j, j < c → W.cell? (x.add j) = some (.int .u8 (z j))) :
    ∀ ty, (Builtin.copy_ #[39, 39] ty #[.slice (some ⟨g, 8 + p, none⟩) (64 - p) dcap, .slice (some x) len cap]).run Tryd.prog W = .ok (.int .i64 c) (W.setRow g (dg s (over f z p c) n)) := by
  intro ty
  have hrun := run_copy_row (P := Tryd.prog) W 39 39 ty 5 g (8 + p) (64 - p) dcap x len cap (dg s f n) 139 ((vs .u8 c z).toList) Tryd.underlying39 (by kernel_rfl) hg (by rw [Array.length_toList, vs_size]; exact hc)
    (fun j v hj => by
      rw [Array.getElem?_toList] at hj
      have hlt : j < c := by
        by_cases h : j < c
        · exact h
        · rw [vs_get_none _ _ _ _ (by omega)] at hj; cases hj
      rw [vs_get _ _ _ _ hlt] at hj
      cases hj
      exact hx j hlt)
    (by rw [Array.length_toList, vs_size, dg_size]; omega) (fun v hv => by
      rw [Array.mem_toList_iff] at hv
      exact (Array.all_eq_true_iff_forall_mem.1 (vs_one _ _ _)) v hv)
  rw [hrun, Array.length_toList, vs_size]
  have e : ((dg s f n).toList.take (8 + p) ++ ((vs .u8 c z).toList ++ (dg s f n).toList.drop (8 + p + c))).toArray = dg s (over f z p c) n := by
    refine dg_ext (s := s) (f := f) (n := n) _ ?_ ?_ ?_ ?_
    · simp [dg_size, vs_size]; omega
    · intro i hi
      rw [List.getElem?_toArray, List.getElem?_append_left (by simp [dg_size]; omega), List.getElem?_take_of_lt (by omega), Array.getElem?_toList, dg_word _ _ _ i hi]
    · intro j hj
      rw [List.getElem?_toArray]
      unfold over
      by_cases h1 : j < p
      · rw [if_neg (by omega), List.getElem?_append_left (by simp [dg_size]; omega), List.getElem?_take_of_lt (by omega), Array.getElem?_toList, dg_byte _ _ _ j hj]
      · rw [List.getElem?_append_right (by simp [dg_size]; omega)]
        by_cases h2 : j < p + c
        · rw [if_pos (by omega), List.getElem?_append_left (by simp [dg_size, vs_size]; omega), Array.getElem?_toList, vs_get _ _ _ _ (by simp [dg_size]; omega)]
          simp [dg_size]
          exact congrArg z (by omega)
        · rw [if_neg (by omega), List.getElem?_append_right (by simp [dg_size, vs_size]; omega), List.getElem?_drop, Array.getElem?_toList]
          rw [show 8 + p + c + (8 + j - ((dg s f n).toList.take (8 + p)).length - (vs .u8 c z).toList.length) = 8 + j by simp [dg_size, vs_size]; omega, dg_byte _ _ _ j hj]
    · rw [List.getElem?_toArray, List.getElem?_append_right (by simp [dg_size]; omega), List.getElem?_append_right (by simp [dg_size, vs_size]; omega), List.getElem?_drop, Array.getElem?_toList]
      rw [show 8 + p + c + (72 - ((dg s f n).toList.take (8 + p)).length - (vs .u8 c z).toList.length) = 72 by simp [dg_size, vs_size]; omega, dg_len]
  rw [List.append_assoc, e]
  rfl

end Go.Proofs.YtficlakgameglaaDoor

namespace Go.Proofs.YtficlakgameglaaDoor

open Go.RowKit

set_option linter.unusedVariables false

/-- A load of a whole array, kept whole in the walk. -/
def lv40 (a : Addr) : Sem Value := loadVar 136 a

def lv44 (a : Addr) : Sem Value := loadVar 137 a

theorem lv40_eq (a : Addr) : loadVar 136 a = lv40 a := rfl

theorem lv44_eq (a : Addr) : loadVar 137 a = lv44 a := rfl

attribute [local go_sem ↓] lv40_eq lv44_eq

theorem loadAt_var {P : Program} {ty : TypeId} {a : Addr} {w : World} {v : Value} (h : (Instr.loadAt ty (.pointer (some a))).run P w = .ok v w) : (loadVar ty a).run P w = .ok v w := by
  simpa only [Instr.loadAt, Instr.sureAddr, Sem.run_bind, Sem.run_pure, Result.andThen_ok] using h

theorem lv40_run {w : World} {g : Nat} {s f : Nat → Int} {n : Int} {t : TypeId} (h : w.heap[g]? = some (.cells (dg s f n) t)) : (lv40 ⟨g, 0, none⟩).run Tryd.prog w = .ok (.agg (vs .u32 8 s)) w := loadAt_var (dg_load_words h)

theorem lv44_run {w : World} {g : Nat} {s f : Nat → Int} {n : Int} {t : TypeId} (h : w.heap[g]? = some (.cells (dg s f n) t)) : (lv44 ⟨g, 8, none⟩).run Tryd.prog w = .ok (.agg (vs .u8 64 f)) w := loadAt_var (dg_load_block h)

set_option maxRecDepth 20000 in
set_option maxHeartbeats 2000000 in
theorem write_any (K H m : Nat → Int) (g : Nat) (s f : Nat → Int) (L len cap b0 off : Nat) (w : World) (hd : Dig K H m L s f) (hg : w.heap[g]? = some (.cells (dg s f L) 139)) (hK : Tab w 1 64 K) (hg2 : (1 : Nat) ≠ g)
    (hz : ∀ j, j < len → w.cell? ⟨b0, off + j, none⟩ = some (.int .u8 (m (L + j)))) (hr : ∀ j, j < len → 0 ≤ m (L + j) ∧ m (L + j) < 256) (hb : b0 ≠ g) (hb' : b0 < w.heap.size) (hL : L + len < 4611686018427387904) (hc : len ≤ cap) (hc' : cap ≤ 9223372036854775807) :
    Calls Tryd.prog 62 #[.pointer (some ⟨g, 0, none⟩), .slice (some ⟨b0, off, none⟩) len cap] w fun e w' => e = .returned (.tuple #[]) ∧ Kept g w w' ∧ ∃ s' f', Dig K H m (L + len) s' f' ∧ w'.heap[g]? = some (.cells (dg s' f' ((L + len : Nat) : Int)) 139) := by
  have HD := hid hd
  have HG := hid hg
  have HK := hid hK
  have HZ := hid hz
  have HR := hid hr
  clear hd hg hK hz hr
  go_enter Tryd.func62, Tryd.ntmps62
  go_wp2
  go_loopw [1] (fun b wr => ∃ (k : Nat) (s f : Nat → Int) (A : Addr), k ≤ len ∧ b = .slice (some A) (len - k) (cap - k) ∧ (k < len → A = ⟨b0, off + k, none⟩) ∧ Dig K H m (L + k) s f ∧ wr.heap[g]? = some (.cells (dg s f ((L + k : Nat) : Int)) 139) ∧ Kept g w wr) (fun b _ => match b with | .slice _ n _ => n | _ => 0)
  case atStart => exact ⟨0, s, f, _, Nat.zero_le _, rfl, fun _ => rfl, HD.out, HG.out, Kept.refl _ _⟩
  case round =>
    clear HD HG
    obtain ⟨k, s, f, A, hk, rfl, hA, hd, hg, hkept⟩ := hrel
    by_cases hlt : k < len
    · have hA := hA hlt
      subst hA
      obtain ⟨N, eN⟩ : ∃ N, N = L + k := ⟨_, rfl⟩
      obtain ⟨p, ep⟩ : ∃ p, p = N % 64 := ⟨_, rfl⟩
      obtain ⟨M, eM⟩ : ∃ M, M = len - k := ⟨_, rfl⟩
      obtain ⟨C, eC⟩ : ∃ C, C = cap - k := ⟨_, rfl⟩
      rw [← eN] at hd hg
      rw [← eM, ← eC]
      have cl := row_cell hg 72
      rw [dg_len] at cl
      have HD := hid hd
      have HG := hid hg
      have HKP := hid hkept
      have b1 : (0 : Int) ≤ (p : Int) := by omega
      have b2 : (p : Int) < 64 := by omega
      have b3 : (p : Int) ≤ 64 := by omega
      have b4 : (0 : Int) < (M : Int) := by omega
      have r1 : (N : Int).tmod 64 = (p : Int) := by rw [Int.tmod_eq_emod_of_nonneg (by omega)]; omega
      have r2 : IntKind.u64.wrap (p : Int) = (p : Int) := by rw [IntKind.wrap_u64]; omega
      have r3 : (N : Int) % 64 = (p : Int) := by omega
      have HE := hid (And.intro eN (And.intro ep (And.intro eM eC)))
      clear hd hg hkept eN ep eM eC
      obtain ⟨c, ec⟩ : ∃ c, c = Nat.min M (64 - p) := ⟨_, rfl⟩
      have hcM : c ≤ M := by rw [ec]; exact Nat.min_le_left _ _
      have hcp' : c ≤ 64 - p := by rw [ec]; exact Nat.min_le_right _ _
      have hcp : p + c ≤ 64 := by omega
      have np : ¬ 64 = p := by omega
      have hc0 : 0 < c := by rw [ec]; exact Nat.lt_min.2 ⟨by omega, by omega⟩
      have hx : ∀ j, j < c → wr.cell? ((⟨b0, off + k, none⟩ : Addr).add j) = some (.int .u8 ((fun j => m (N + j)) j)) := by
        intro j hj
        obtain ⟨eN, ep, eM, eC⟩ := HE.out
        rw [Addr.add_mid, HKP.out.cell hb' hb, show off + k + j = off + (k + j) by omega, HZ.out (k + j) (by omega), eN, show L + (k + j) = L + k + j by omega]
      have hcopy := copy_in wr.drew g s f (fun j => m (N + j)) N p c ⟨b0, off + k, none⟩ M C (64 - p) HG.out hcp ec hx
      have HC := hid hcopy
      have HEC := hid ec
      clear hcopy hx ec
      go_wp2
      go_region_held3 (fun w' => w'.cell? ⟨g, 72, none⟩ = some (.int .u64 N)) (first | exact cl | exact ((row_cell (setRow_at (w := wr.drew) HG.out) 72).trans (dg_len _ _ _))) ((refine step_copy_is (by rfl) _ _ 39 39 (by rfl) _ _ _ _ (by rfl) (by rfl) HC.out ?_))
      obtain ⟨f1, ef⟩ : ∃ f1, f1 = over f (fun j => m (N + j)) p c := ⟨_, rfl⟩
      obtain ⟨W1, hW⟩ : ∃ W, W = wr.drew.setRow g (dg s (over f (fun j => m (N + j)) p c) N) := ⟨_, rfl⟩
      rw [← hW]
      have hg1 : W1.heap[g]? = some (.cells (dg s f1 N) 139) := by rw [hW, ef]; exact setRow_at (w := wr.drew) HG.out
      have hk1 : Kept g w W1 := by rw [hW]; exact (HKP.out.drew).setRow _
      have c72 := row_cell hg1 72
      rw [dg_len] at c72
      have f72 := row_frozen hg1 72
      have HG1 := hid hg1
      have HK1 := hid hk1
      have HF := hid ef
      clear cl HC hW hg1 hk1 ef
      have s1 : (c : Int) ≤ (M : Int) := by omega
      have s2 : (0 : Int) ≤ (c : Int) := by omega
      have s3 : (M : Int) ≤ (C : Int) := by have := HE.out; omega
      have s4 : (N : Int) + (c : Int) < 4611686018427387904 := by have := HE.out; omega
      clear hA
      go_upto_region 4 with fail
      obtain ⟨A', hA', hA2⟩ : ∃ A : Addr, (if C = c then some (⟨b0, off + k, none⟩ : Addr) else some ⟨b0, off + k + c, none⟩) = some A ∧ (c < M → A = ⟨b0, off + k + c, none⟩) := by
        by_cases hCc : C = c
        · rw [if_pos hCc]; exact ⟨_, rfl, fun h => absurd h (by omega)⟩
        · rw [if_neg hCc]; exact ⟨_, rfl, fun _ => rfl⟩
      rw [hA']
      have HA := hid hA2
      clear hA' hA2
      obtain ⟨W2, hW2⟩ : ∃ W, W = W1.setCell ⟨g, 72, none⟩ (.int .u64 ((N : Int) + (c : Int))) := ⟨_, rfl⟩
      have hg2' : W2.heap[g]? = some (.cells (dg s f1 ((N : Int) + (c : Int))) 139) := by
        rw [hW2]
        refine (row_set HG1.out 72 _).trans ?_
        rw [dg_setLen]
      have hk2 : Kept g w W2 := by rw [hW2]; exact HK1.out.setCell 72 _
      have HG2 := hid hg2'
      have HKP2 := hid hk2
      have HR2 := hid hW2
      clear hg2' hk2 hW2
      by_cases hfull : p + c = 64
      · have q1 : ((N : Int) + (c : Int)) % 64 = 0 := by have := HE.out; omega
        have hD := HD.out.full (z := fun j => m (N + j)) c (by have := HE.out; omega) (fun j hj => rfl) (fun j hj => by have h := HE.out; have := HR.out (k + j) (by omega); rw [show L + (k + j) = N + j by omega] at this; exact this)
        go_wp2
        rw [← HR2.out]
        have HFB : Hid (∀ i, i < 64 → 0 ≤ f1 i ∧ f1 i < 256) := by rw [HF.out]; have h := HE.out; rw [h.2.1]; exact hD.range
        have HSB := hid HD.out.bd
        have HK2 : Hid (Tab W2.drew 1 64 K) := HKP2.out.tab HK.out hg2
        have HGL : Hid (g < W2.drew.heap.size) := by
          show g < W2.heap.size
          exact (Array.getElem?_eq_some_iff.1 HG2.out).1
        have x0 := (row_cell HG2.out 0).trans (dg_word s f1 _ 0 (by omega))
        have x1 := (row_cell HG2.out 1).trans (dg_word s f1 _ 1 (by omega))
        have x2 := (row_cell HG2.out 2).trans (dg_word s f1 _ 2 (by omega))
        have x3 := (row_cell HG2.out 3).trans (dg_word s f1 _ 3 (by omega))
        have x4 := (row_cell HG2.out 4).trans (dg_word s f1 _ 4 (by omega))
        have x5 := (row_cell HG2.out 5).trans (dg_word s f1 _ 5 (by omega))
        have x6 := (row_cell HG2.out 6).trans (dg_word s f1 _ 6 (by omega))
        have x7 := (row_cell HG2.out 7).trans (dg_word s f1 _ 7 (by omega))
        have l40 := lv40_run (w := W2.drew) HG2.out
        have l44 := lv44_run (w := W2.drew) HG2.out
        have HDD := hid hD
        clear hD x0 x1 x2 x3 x4 x5 x6 x7
        go_region_with (go_at_call 82; refine (after_any K f1 s _ HFB.out HSB.out (HK2.out)).mono ?_; rintro e w1 ⟨rfl, hb1⟩; rw [vs8]; have hg3 := (hb1.block g HGL.out).trans HG2.out; have y0 := (row_cell hg3 0).trans (dg_word s f1 _ 0 (by omega)); have z0 := row_frozen hg3 0; have y1 := (row_cell hg3 1).trans (dg_word s f1 _ 1 (by omega)); have z1 := row_frozen hg3 1; have y2 := (row_cell hg3 2).trans (dg_word s f1 _ 2 (by omega)); have z2 := row_frozen hg3 2; have y3 := (row_cell hg3 3).trans (dg_word s f1 _ 3 (by omega)); have z3 := row_frozen hg3 3; have y4 := (row_cell hg3 4).trans (dg_word s f1 _ 4 (by omega)); have z4 := row_frozen hg3 4; have y5 := (row_cell hg3 5).trans (dg_word s f1 _ 5 (by omega)); have z5 := row_frozen hg3 5; have y6 := (row_cell hg3 6).trans (dg_word s f1 _ 6 (by omega)); have z6 := row_frozen hg3 6; have y7 := (row_cell hg3 7).trans (dg_word s f1 _ 7 (by omega)); have z7 := row_frozen hg3 7)
        all_goals
          go_wp2
          obtain ⟨eN, ep, eM, eC⟩ := HE.out
          refine ⟨⟨k + c, comp K f1 s, f1, A', by omega, ?_, fun h => ?_, ?_, ?_, ?_⟩, ?_⟩
          · rw [eM, eC, Nat.sub_sub, Nat.sub_sub]
          · rw [HA.out (by omega)]
            congr 1
            omega
          · rw [HF.out, ep, show L + (k + c) = N + c by omega]
            exact HDD.out
          · rw [show ((L + (k + c) : Nat) : Int) = (N : Int) + (c : Int) by omega]
            exact (row8' hg3 _ _ _ _ _ _ _ _).trans (congrArg (fun c => some (Obj.cells c 139)) (dg_set8 s f1 (comp K f1 s) _ _ _ _ _ _ _ _ _ rfl rfl rfl rfl rfl rfl rfl rfl))
          · exact (((((((((HKP2.out.drew).trans (Kept.ofBelow hb1)).setCell 0 _).setCell 1 _).setCell 2 _).setCell 3 _).setCell 4 _).setCell 5 _).setCell 6 _).setCell 7 _
          · show M - c < M
            omega
      · have q1 : (((N : Int) + (c : Int)) % 64 == 0) = false := by have := HE.out; simp; omega
        have hD := HD.out.part (z := fun j => m (N + j)) c (by have := HE.out; omega) (fun j hj => rfl) (fun j hj => by have h := HE.out; have := HR.out (k + j) (by omega); rw [show L + (k + j) = N + j by omega] at this; exact this)
        have HDD := hid hD
        clear hD
        go_wp2
        rw [← HR2.out]
        obtain ⟨eN, ep, eM, eC⟩ := HE.out
        refine ⟨⟨k + c, s, f1, A', by omega, ?_, fun h => ?_, ?_, ?_, HKP2.out⟩, ?_⟩
        · rw [eM, eC, Nat.sub_sub, Nat.sub_sub]
        · rw [HA.out (by omega)]
          congr 1
          omega
        · rw [HF.out, ep, show L + (k + c) = N + c by omega]
          exact HDD.out
        · rw [show ((L + (k + c) : Nat) : Int) = (N : Int) + (c : Int) by omega]
          exact HG2.out
        · show M - c < M
          omega
    · go_wp2
      have ek : k = len := by omega
      subst ek
      refine bodyPost_end (results_none rfl _ _ _) rfl ?_
      exact ⟨rfl, hkept, s, f, hd, hg⟩

end Go.Proofs.YtficlakgameglaaDoor

namespace Go.Proofs.YtficlakgameglaaDoor

open Go.RowKit

set_option linter.unusedVariables false

theorem zero_dg : ∀ w : World, (zeroValue 139).run Tryd.prog w = .ok (.agg (dg (fun _ => 0) (fun _ => 0) 0)) w := (zero_of_info (n := 73) (by kernel_rfl)).1

theorem zero_72 : ∀ w : World, (zeroValue 150).run Tryd.prog w = .ok (.agg (vs .u8 72 fun _ => 0)) w := (zero_of_info (n := 72) (by kernel_rfl)).1

set_option maxRecDepth 20000 in
set_option maxHeartbeats 1000000 in
theorem new_any (H : Nat → Int) (w : World) (hH : Tab w 0 8 H) :
    Calls Tryd.prog 61 #[] w fun e w' => e = .returned (.pointer (some ⟨w.heap.size, 0, none⟩)) ∧ w' = w.alloc (.cells (dg H (fun _ => 0) 0) 139) := by
  have h0 := hH.2 0 (by omega)
  have h1 := hH.2 1 (by omega)
  have h2 := hH.2 2 (by omega)
  have h3 := hH.2 3 (by omega)
  have h4 := hH.2 4 (by omega)
  have h5 := hH.2 5 (by omega)
  have h6 := hH.2 6 (by omega)
  have h7 := hH.2 7 (by omega)
  have z := zero_dg
  have e := dg_set8 (fun _ => 0) (fun _ => 0) H 0 (H 0) (H 1) (H 2) (H 3) (H 4) (H 5) (H 6) (H 7) rfl rfl rfl rfl rfl rfl rfl rfl
  have sz := dg_size (fun _ => 0) (fun _ => 0) 0
  clear hH
  go_enter Tryd.func61, Tryd.ntmps61
  go_wp2
  go_ret
  exact ⟨rfl, rfl⟩

/-- How many bytes stand in the padding ahead of the length. -/
def padZ (L : Nat) : Nat := 1 + (119 - L % 64) % 64

/-- The byte number i of the length in bits. -/
def lenB (L i : Nat) : Int := 8 * (L : Int) / 2 ^ (8 * (7 - i)) % 256

def padB (L j : Nat) : Int := if j = 0 then 128 else if j < padZ L then 0 else lenB L (j - padZ L)

/-- The padded message, and its length. -/
def padM (m : Nat → Int) (L i : Nat) : Int := if i < L then m i else padB L (i - L)

def padL (L : Nat) : Nat := L + padZ L + 8

theorem padZ_bd (L : Nat) : 1 ≤ padZ L ∧ padZ L ≤ 64 ∧ (L + padZ L) % 64 = 56 := by unfold padZ; omega

theorem lenB_bd (L i : Nat) : 0 ≤ lenB L i ∧ lenB L i < 256 := by unfold lenB; omega

theorem padB_bd (L j : Nat) : 0 ≤ padB L j ∧ padB L j < 256 := by
  unfold padB
  by_cases h : j = 0
  · rw [if_pos h]; omega
  · rw [if_neg h]
    by_cases h2 : j < padZ L
    · rw [if_pos h2]; omega
    · rw [if_neg h2]; exact lenB_bd _ _

/-- The padding, k bytes of its length written. -/
def padU (L k j : Nat) : Int := if j = 0 then 128 else if j < padZ L then 0 else if j < padZ L + k then lenB L (j - padZ L) else 0

theorem padU_set (L k : Nat) (v : Int) (hv : v = lenB L k) : vs .u8 72 (fun j => if j = padZ L + k then v else padU L k j) = vs .u8 72 (padU L (k + 1)) := by
  have hz := padZ_bd L
  refine vs_congr fun j _ => ?_
  unfold padU
  by_cases h : j = padZ L + k
  · rw [if_pos h, if_neg (by omega), if_neg (by omega), if_pos (by omega), h, hv]
    congr 1
    omega
  · rw [if_neg h]
    by_cases h0 : j = 0
    · rw [if_pos h0, if_pos h0]
    · rw [if_neg h0, if_neg h0]
      by_cases h1 : j < padZ L
      · rw [if_pos h1, if_pos h1]
      · rw [if_neg h1, if_neg h1]
        by_cases h2 : j < padZ L + k
        · rw [if_pos h2, if_pos (by omega)]
        · rw [if_neg h2, if_neg (by omega)]

theorem padM_at (m : Nat → Int) (L j : Nat) : padM m L (L + j) = padB L j := by
  unfold padM
  rw [if_neg (by omega), show L + j - L = j by omega]

theorem padU_B (L j : Nat) (hj : j < padZ L + 8) : padU L 8 j = padB L j := by
  unfold padU padB
  by_cases h0 : j = 0
  · rw [if_pos h0, if_pos h0]
  · rw [if_neg h0, if_neg h0]
    by_cases h1 : j < padZ L
    · rw [if_pos h1, if_pos h1]
    · rw [if_neg h1, if_neg h1, if_pos hj]

set_option maxRecDepth 20000 in
set_option maxHeartbeats 2000000 in
theorem pad_any (K H m : Nat → Int) (g : Nat) (s f : Nat → Int) (L : Nat) (w : World) (hd : Dig K H m L s f) (hg : w.heap[g]? = some (.cells (dg s f L) 139)) (hK : Tab w 1 64 K) (hg2 : (1 : Nat) ≠ g) (hL : L < 1152921504606846976) :
    Calls Tryd.prog 83 #[.pointer (some ⟨g, 0, none⟩)] w fun e w' => e = .returned (.tuple #[]) ∧ Kept g w w' ∧ ∃ s' f', Dig K H (padM m L) (padL L) s' f' ∧ w'.heap[g]? = some (.cells (dg s' f' (padL L : Nat)) 139) := by
  have c72 := row_cell hg 72
  rw [dg_len] at c72
  obtain ⟨p, ep⟩ : ∃ p, p = L % 64 := ⟨_, rfl⟩
  have r1 : (L : Int) % 64 = (p : Int) := by omega
  obtain ⟨z, ez⟩ : ∃ z, z = padZ L := ⟨_, rfl⟩
  have hz := padZ_bd L
  rw [← ez] at hz
  have r2 : (1 : Int) + (119 - (p : Int)) % 64 = (z : Int) := by rw [ez]; unfold padZ; omega
  have hgl : g < w.heap.size := (Array.getElem?_eq_some_iff.1 hg).1
  have p1 : (p : Int) < 64 := by omega
  have p2 : (0 : Int) ≤ (p : Int) := by omega
  have HD := hid hd
  have HG := hid hg
  have HK := hid hK
  have HE := hid (And.intro ep ez)
  have zv := zero_72
  clear hd hg hK ep ez
  go_enter Tryd.func83, Tryd.ntmps83
  go_wp2
  go_loopw [20] (fun i wr => ∃ k : Nat, k ≤ 8 ∧ i = .int .u64 k ∧ Below w.heap.size w wr ∧ wr.heap.size = w.heap.size + 1 ∧ wr.heap[w.heap.size]? = some (.cells (vs .u8 72 (padU L k)) 150)) (fun i _ => 8 - (intOf i).toNat)
  case atStart =>
    refine ⟨0, by omega, rfl, ?_, by simp, ?_⟩
    · go_grown
    · refine (heap_new rfl).trans ?_
      rw [vs_set]
      refine congrArg (fun c => some (Obj.cells c 150)) (vs_congr fun j _ => ?_)
      unfold padU
      by_cases h0 : j = 0
      · rw [if_pos h0, if_pos h0]
      · rw [if_neg h0, if_neg h0]
        by_cases h1 : j < padZ L
        · rw [if_pos h1]
        · rw [if_neg h1, if_neg (by omega)]
  case round =>
    obtain ⟨k, hk, rfl, hB, hsz, r⟩ := hrel
    by_cases hlt : k < 8
    · have cs := row_int r (z + k) (by omega)
      have fs := row_frozen r (z + k)
      have R := hid r
      have HB := hid hB
      have HSZ := hid hsz
      clear r hB hsz
      have k1 : (0 : Int) ≤ (k : Int) := by omega
      have k2 : (k : Int) < 8 := by omega
      have k3 : (z : Int) + (k : Int) < 72 := by omega
      have k4 : ((z : Int) + (k : Int)).toNat = z + k := by omega
      go_wp2
      go_roundw
      case rel =>
        refine ⟨k + 1, by omega, by go_num, HB.out.setCell (by simp) _, (size_s _ _ _).trans HSZ.out, ?_⟩
        refine (row_set R.out (z + k) _).trans ?_
        rw [vs_set, HE.out.2]
        exact congrArg (fun c => some (Obj.cells c 150)) (padU_set L k _ rfl)
      case measure => simp [intOf]; omega
    · have ek : k = 8 := by omega
      subst ek
      have ez := HE.out.2
      have hd' : Dig K H (padM m L) L s f := HD.out.congr fun i hi => by unfold padM; rw [if_pos hi]
      have hw := write_any K H (padM m L) g s f L (z + 8) 72 w.heap.size 0 wr hd' ((hB.block g hgl).trans HG.out) (HK.out.below hB) hg2
        (fun j hj => by rw [Nat.zero_add, row_int r j (by omega), padM_at, padU_B L j (by omega)])
        (fun j hj => by rw [padM_at]; exact padB_bd _ _) (by omega) (by omega) (by omega) (by omega) (by omega)
      have HW := hid hw
      have HB := hid hB
      have z1 : (0 : Int) ≤ (z : Int) + 8 := by omega
      have z2 : (z : Int) + 8 ≤ 72 := by omega
      have z3 : ((z : Int) + 8).toNat = z + 8 := by omega
      have z4 : z + 8 ≤ 72 := by omega
      clear hw hB r hsz hk hlt hd' ez
      rw [show ((8 : Nat) : Int) = 8 from rfl]
      go_wp2_with (go_at_call 62; refine HW.out.mono ?_; rintro e w' ⟨rfl, hkp, s', f', hd2, hg3⟩)
      have e : L + (z + 8) = padL L := by rw [HE.out.2]; unfold padL; omega
      rw [e] at hd2 hg3
      refine bodyPost_end (results_none rfl _ _ _) rfl ?_
      exact ⟨rfl, (Kept.ofBelow HB.out).trans hkp, s', f', hd2, hg3⟩

end Go.Proofs.YtficlakgameglaaDoor

namespace Go.Proofs.YtficlakgameglaaDoor

open Go.RowKit

set_option linter.unusedVariables false

/-- The bytes of the words, the highest byte of each first. -/
def rbt (s : Nat → Int) (j : Nat) : Int := s (j / 4) / (2 ^ (24 - 8 * (j % 4))) % 256

theorem rbt_bd (s : Nat → Int) (j : Nat) : 0 ≤ rbt s j ∧ rbt s j < 256 := by unfold rbt; omega

theorem rbt0 (s : Nat → Int) (k : Nat) : rbt s (4 * k) = s k / 16777216 % 256 := by
  unfold rbt
  rw [show 4 * k / 4 = k by omega, show 4 * k % 4 = 0 by omega]
  rfl

theorem rbt1 (s : Nat → Int) (k : Nat) : rbt s (4 * k + 1) = s k / 65536 % 256 := by
  unfold rbt
  rw [show (4 * k + 1) / 4 = k by omega, show (4 * k + 1) % 4 = 1 by omega]
  rfl

theorem rbt2 (s : Nat → Int) (k : Nat) : rbt s (4 * k + 2) = s k / 256 % 256 := by
  unfold rbt
  rw [show (4 * k + 2) / 4 = k by omega, show (4 * k + 2) % 4 = 2 by omega]
  rfl

theorem rbt3 (s : Nat → Int) (k : Nat) : rbt s (4 * k + 3) = s k % 256 := by
  unfold rbt
  rw [show (4 * k + 3) / 4 = k by omega, show (4 * k + 3) % 4 = 3 by omega]
  simp

theorem ix8 (s : Nat → Int) (k : Nat) (hk : k < 8) (w : World) : (Instr.index 136 (.agg (vs .u32 8 s)) (.int .i64 k)).run Tryd.prog w = .ok (.int .u32 (s k)) w := by
  have h1 : (0 : Int) ≤ (k : Int) ∧ (k : Int) < ((8 : Nat) : Int) := by omega
  simp [Instr.index, run_underlying Tryd.underlying136, asIntOf, part, vs_get _ _ _ _ hk, hk]

theorem upto_set4 (g : Nat → Int) (k : Nat) (n : Nat) (v0 v1 v2 v3 : Int) (h0 : v0 = g (4 * k)) (h1 : v1 = g (4 * k + 1)) (h2 : v2 = g (4 * k + 2)) (h3 : v3 = g (4 * k + 3)) :
    ((((vs .u8 n fun j => if j < 4 * k then g j else 0).setIfInBounds (4 * k) (.int .u8 v0)).setIfInBounds (4 * k + 1) (.int .u8 v1)).setIfInBounds (4 * k + 2) (.int .u8 v2)).setIfInBounds (4 * k + 3) (.int .u8 v3) = vs .u8 n fun j => if j < 4 * (k + 1) then g j else 0 := by
  rw [vs_set, vs_set, vs_set, vs_set]
  refine vs_congr fun i _ => ?_
  by_cases e3 : i = 4 * k + 3
  · subst e3; simp [h3, show 4 * k + 3 < 4 * (k + 1) by omega]
  · by_cases e2 : i = 4 * k + 2
    · subst e2; simp [h2, show 4 * k + 2 < 4 * (k + 1) by omega]
    · by_cases e1 : i = 4 * k + 1
      · subst e1; simp [h1, show 4 * k + 1 < 4 * (k + 1) by omega]
      · by_cases e0 : i = 4 * k
        · subst e0; simp [h0, show 4 * k < 4 * (k + 1) by omega]
        · by_cases hl : i < 4 * k
          · simp [e0, e1, e2, e3, hl, show i < 4 * (k + 1) by omega]
          · simp [e0, e1, e2, e3, hl, show ¬ i < 4 * (k + 1) by omega]

theorem row4 {w : World} {b : Nat} {c : Array Value} {t : TypeId} (h : w.heap[b]? = some (.cells c t)) (i j k l : Nat) (u v x y : Value) :
    ((((w.setCell ⟨b, i, none⟩ u).setCell ⟨b, j, none⟩ v).setCell ⟨b, k, none⟩ x).setCell ⟨b, l, none⟩ y).heap[b]? = some (.cells ((((c.setIfInBounds i u).setIfInBounds j v).setIfInBounds k x).setIfInBounds l y) t) :=
  row_set (row_set (row_set (row_set h i u) j v) k x) l y

theorem other4 {w : World} {b b' : Nat} (hb : b' ≠ b) (i j k l : Nat) (u v x y : Value) :
    ((((w.setCell ⟨b, i, none⟩ u).setCell ⟨b, j, none⟩ v).setCell ⟨b, k, none⟩ x).setCell ⟨b, l, none⟩ y).heap[b']? = w.heap[b']? :=
  (heap_set_other hb).trans ((heap_set_other hb).trans ((heap_set_other hb).trans (heap_set_other hb)))

theorem size4 {w : World} {b : Nat} (i j k l : Nat) (u v x y : Value) :
    ((((w.setCell ⟨b, i, none⟩ u).setCell ⟨b, j, none⟩ v).setCell ⟨b, k, none⟩ x).setCell ⟨b, l, none⟩ y).heap.size = w.heap.size := by simp only [size_s]

set_option maxRecDepth 20000 in
set_option maxHeartbeats 2000000 in
theorem rootOf_any (s : Nat → Int) (w : World) (hs : ∀ i, i < 8 → 0 ≤ s i ∧ s i < 4294967296) :
    Calls Tryd.prog 84 #[.agg (vs .u32 8 s)] w fun e w' => e = .returned (.agg (vs .u8 32 (rbt s))) ∧ Below w.heap.size w w' := by
  have HSS := hid hs
  have IX : ∀ k : Nat, k < 8 → ∀ w : World, (Instr.index 136 (.agg #[.int .u32 (s 0), .int .u32 (s 1), .int .u32 (s 2), .int .u32 (s 3), .int .u32 (s 4), .int .u32 (s 5), .int .u32 (s 6), .int .u32 (s 7)]) (.int .i64 k)).run Tryd.prog w = .ok (.int .u32 (s k)) w := fun k hk w => ix8 s k hk w
  have HIX := hid IX
  rw [vs8]
  clear hs IX
  go_enter Tryd.func84, Tryd.ntmps84
  go_wp2
  go_loopw [7] (fun i wr => ∃ k : Nat, k ≤ 8 ∧ i = .int .i64 k ∧ Below w.heap.size w wr ∧ wr.heap.size = w.heap.size + 3 ∧ wr.heap[w.heap.size + 1]? = some (.cells (vs .u8 32 fun _ => 0) 24) ∧ wr.heap[w.heap.size + 1 + 1]? = some (.cells (vs .u8 32 fun j => if j < 4 * k then rbt s j else 0) 24)) (fun i _ => 8 - (intOf i).toNat)
  case atStart =>
    refine ⟨0, by omega, rfl, ?_, ?_, ?_, ?_⟩
    · go_grown
    · simp
    · exact (heap_old (by simp)).trans ((heap_new (by simp)))
    · exact heap_new (by simp)
  case round =>
    obtain ⟨k, hk, rfl, hB, hz, r1, r2⟩ := hrel
    by_cases hlt : k < 8
    · obtain ⟨x0, x1⟩ := HSS.out k hlt
      have hix := HIX.out k hlt
      have q0 := rbt0 s k
      have q1 := rbt1 s k
      have q2 := rbt2 s k
      have q3 := rbt3 s k
      generalize s k = x at hix x0 x1 q0 q1 q2 q3
      have Q := hid (And.intro q0 (And.intro q1 (And.intro q2 q3)))
      clear q0 q1 q2 q3
      have cs0 := row_int r2 (4 * k) (by omega)
      have cs1 := row_int r2 (4 * k + 1) (by omega)
      have cs2 := row_int r2 (4 * k + 2) (by omega)
      have cs3 := row_int r2 (4 * k + 3) (by omega)
      have fs0 := row_frozen r2 (4 * k)
      have fs1 := row_frozen r2 (4 * k + 1)
      have fs2 := row_frozen r2 (4 * k + 2)
      have fs3 := row_frozen r2 (4 * k + 3)
      have R1 := hid r1
      have R2 := hid r2
      have HZ := hid hz
      have HB := hid hB
      clear r1 r2 hz hB
      have b1 : (0 : Int) ≤ (k : Int) := by omega
      have b2 : (k : Int) < 8 := by omega
      have t0 : (4 * (k : Int)).toNat = 4 * k := by omega
      have t1 : (4 * (k : Int) + 1).toNat = 4 * k + 1 := by omega
      have t2 : (4 * (k : Int) + 2).toNat = 4 * k + 2 := by omega
      have t3 : (4 * (k : Int) + 3).toNat = 4 * k + 3 := by omega
      go_wp2
      go_roundw
      case rel =>
        obtain ⟨q0, q1, q2, q3⟩ := Q.out
        have hq : w.heap.size ≤ w.heap.size + 1 + 1 := by omega
        refine ⟨k + 1, by omega, by go_num, ?_, ?_, ?_, ?_⟩
        · exact (((HB.out.setCell hq _).setCell hq _).setCell hq _).setCell hq _
        · exact (size4 _ _ _ _ _ _ _ _).trans HZ.out
        · exact (other4 (by omega) _ _ _ _ _ _ _ _).trans R1.out
        · refine (row4 R2.out _ _ _ _ _ _ _ _).trans ?_
          exact congrArg (fun c => some (Obj.cells c 24)) (upto_set4 (rbt s) k 32 _ _ _ _ (by rw [q0]; omega) q1.symm q2.symm q3.symm)
      case measure => simp [intOf]; omega
    · have ek : k = 8 := by omega
      subst ek
      have ev : vs .u8 32 (fun j => if j < 4 * 8 then rbt s j else 0) = vs .u8 32 (rbt s) := vs_congr fun i hi => by rw [if_pos (by omega)]
      rw [ev] at r2
      have RL := hid (load_row (P := Tryd.prog) (setRow_at (c := vs .u8 32 (rbt s)) r1) 24 _ Tryd.underlying24 rfl (by rw [vs_size]; kernel_rfl))
      have HL := hid (load_row (P := Tryd.prog) r2 24 _ Tryd.underlying24 rfl (by rw [vs_size]; kernel_rfl))
      have HS := hid (store_row (P := Tryd.prog) r1 24 (vs .u8 32 (rbt s)) (by rw [vs_size]; kernel_rfl) (by simp [vs_size]) (vs_one _ _ _))
      have R1 := hid r1
      have HB := hid hB
      clear r1 r2 hz hB hk hlt ev
      go_wp2_with (first
        | (refine wpList_load_is (by rfl) 24 _ (by rfl) _ _ (by rfl) HL.out ?_)
        | (refine wpList_store_is (by rfl) 24 _ _ (by rfl) _ _ (by rfl) (by rfl) (by rfl) HS.out ?_)
        | (refine bodyPost_ret (results_cell (by rfl) _ _ (w.heap.size + 1) _ (by rfl) RL.out) (by rfl) ?_))
      exact below_row HB.out (by omega) _

end Go.Proofs.YtficlakgameglaaDoor

namespace Go.Proofs.YtficlakgameglaaDoor

open Go.RowKit

set_option linter.unusedVariables false

/-- The sum of the first L bytes of m. -/
def shaV (K H m : Nat → Int) (L : Nat) : Nat → Int := rbt (hsh K H (padM m L) (padL L / 64))

theorem shaV_bd (K H m : Nat → Int) (L j : Nat) : 0 ≤ shaV K H m L j ∧ shaV K H m L j < 256 := rbt_bd _ _

theorem padM_congr {m m' : Nat → Int} {L : Nat} (h : ∀ i, i < L → m i = m' i) (i : Nat) : padM m L i = padM m' L i := by
  unfold padM
  by_cases hi : i < L
  · rw [if_pos hi, if_pos hi, h i hi]
  · rw [if_neg hi, if_neg hi]

theorem shaV_congr {K H m m' : Nat → Int} {L : Nat} (h : ∀ i, i < L → m i = m' i) (j : Nat) (hj : j < 32) : shaV K H m L j = shaV K H m' L j := by
  unfold shaV rbt
  rw [hsh_congr (padL L / 64) (fun i _ => padM_congr h i) (j / 4) (by omega)]

theorem dg_one (s f : Nat → Int) (n : Int) : (dg s f n).all (·.oneCell') = true := by
  unfold dg
  rw [Array.all_append, Array.all_append, vs_one, vs_one]
  simp
  rfl

theorem dig_sum {K H m : Nat → Int} {L : Nat} {s f : Nat → Int} (h : Dig K H (padM m L) (padL L) s f) : vs .u8 32 (rbt s) = vs .u8 32 (shaV K H m L) :=
  vs_congr fun j hj => by
    unfold shaV rbt
    rw [h.words (j / 4) (by omega)]

def lv47 (a : Addr) : Sem Value := loadVar 139 a

def sv47 (a : Addr) (v : Value) : Sem Unit := storeVar 139 a v

theorem lv47_eq (a : Addr) : loadVar 139 a = lv47 a := rfl

theorem sv47_eq (a : Addr) (v : Value) : storeVar 139 a v = sv47 a v := rfl

theorem lv47_run {w : World} {g : Nat} {s f : Nat → Int} {n : Int} {t : TypeId} (h : w.heap[g]? = some (.cells (dg s f n) t)) : (lv47 ⟨g, 0, none⟩).run Tryd.prog w = .ok (.agg (dg s f n)) w :=
  loadAt_var (load_row h 139 _ Tryd.underlying139 rfl (by rw [dg_size]; kernel_rfl))

theorem sv47_run (W : World) (s f s' f' : Nat → Int) (n n' : Int) : (sv47 ⟨W.heap.size, 0, none⟩ (.agg (dg s f n))).run Tryd.prog (W.alloc (.cells (dg s' f' n') 139)) = .ok () (W.alloc (.cells (dg s f n) 139)) :=
  run_storeVar_new W 139 _ _ (by rw [dg_size]; kernel_rfl) (by rw [dg_size, dg_size]) (dg_one _ _ _)

def sv24 (a : Addr) (v : Value) : Sem Unit := storeVar 24 a v

theorem sv24_eq (a : Addr) (v : Value) : storeVar 24 a v = sv24 a v := rfl

def lv24 (a : Addr) : Sem Value := loadVar 24 a

theorem lv24_eq (a : Addr) : loadVar 24 a = lv24 a := rfl

theorem sv24_run {w : World} {b : Nat} {o : Nat → Int} {t : TypeId} (h : w.heap[b]? = some (.cells (vs .u8 32 o) t)) (c : Nat → Int) : (sv24 ⟨b, 0, none⟩ (.agg (vs .u8 32 c))).run Tryd.prog w = .ok () (w.setRow b (vs .u8 32 c)) :=
  run_storeVar_row w b t 24 _ _ h (by rw [vs_size]; kernel_rfl) (by rw [vs_size, vs_size]) (vs_one _ _ _)

theorem lv24_run {w : World} {b : Nat} {c : Nat → Int} {t : TypeId} (h : w.heap[b]? = some (.cells (vs .u8 32 c) t)) : (lv24 ⟨b, 0, none⟩).run Tryd.prog w = .ok (.agg (vs .u8 32 c)) w :=
  loadAt_var (load_row h 24 _ Tryd.underlying24 rfl (by rw [vs_size]; kernel_rfl))

theorem ret24 {fn : Func} {R : Ending → World → Prop} {a : Act} {w' : World} (t : Tmp) (b : Nat) (c : Nat → Int) (ty : TypeId) (h : fn.results = #[.cell t 24]) (hd : a.defers = []) (ht : a.tmps.getD t undef = .pointer (some ⟨b, 0, none⟩)) (hr : w'.heap[b]? = some (.cells (vs .u8 32 c) ty))
    (hR : R (.returned (.agg (vs .u8 32 c))) w') : bodyPost Tryd.prog fn R .ret a w' :=
  bodyPost_ret (results_cell h a.tmps _ b _ ht (load_row hr 24 _ Tryd.underlying24 rfl (by rw [vs_size]; kernel_rfl))) hd hR

attribute [local go_sem ↓] lv47_eq sv47_eq lv40_eq sv24_eq lv24_eq

set_option maxRecDepth 20000 in
set_option maxHeartbeats 400000 in
theorem dsum_any (K H m : Nat → Int) (g : Nat) (s f : Nat → Int) (L : Nat) (w : World) (hd : Dig K H m L s f) (hg : w.heap[g]? = some (.cells (dg s f L) 139)) (hK : Tab w 1 64 K) (hL : L < 1152921504606846976) :
    Calls Tryd.prog 63 #[.pointer (some ⟨g, 0, none⟩)] w fun e w' => e = .returned (.agg (vs .u8 32 (shaV K H m L))) ∧ Below w.heap.size w w' := by
  have hgl : g < w.heap.size := (Array.getElem?_eq_some_iff.1 hg).1
  have h2 : 1 < w.heap.size := hK.1
  have HD := hid hd
  have HG := hid hg
  have HK := hid hK
  have zv := zero_dg
  have HDL := hid hL
  clear hd hg hK
  go_enter Tryd.func63, Tryd.ntmps63
  go_upto_region 3 with fail
  change Code.wp _ _ _ _ (w.alloc (.cells (vs .u8 32 fun _ => 0) 24))
  obtain ⟨W0, hW0⟩ : ∃ W, w.alloc (.cells (vs .u8 32 fun _ => 0) 24) = W := ⟨_, rfl⟩
  rw [hW0]
  have s0 : W0.heap.size = w.heap.size + 1 := by rw [← hW0]; simp
  have hB0 : Below w.heap.size w W0 := by rw [← hW0]; go_grown
  have r0 : W0.heap[w.heap.size]? = some (.cells (vs .u8 32 fun _ => 0) 24) := by rw [← hW0]; exact heap_new rfl
  have l47 := lv47_run ((hB0.block g hgl).trans HG.out)
  have v47 := sv47_run W0 s f (fun _ => 0) (fun _ => 0) L 0
  have HS0 := hid s0
  have HR0 := hid r0
  have HB0 := hid hB0
  clear hW0 s0 r0 hB0
  go_upto_region 4 with fail
  obtain ⟨W1, hW1⟩ : ∃ W, W0.alloc (.cells (dg s f L) 139) = W := ⟨_, rfl⟩
  rw [hW1]
  have g1 : W1.heap[W0.heap.size]? = some (.cells (dg s f L) 139) := by rw [← hW1]; exact heap_new rfl
  have hB1 : Below W0.heap.size W0 W1 := by rw [← hW1]; exact (Below.refl _ _).alloc (Nat.le_refl _) _
  have k1 : Tab W1 1 64 K := (HK.out.below HB0.out).below hB1
  obtain ⟨q, hq⟩ : ∃ q, W0.heap.size = q := ⟨_, rfl⟩
  have sq : q = w.heap.size + 1 := by rw [← hq]; exact HS0.out
  have r1 : W1.heap[w.heap.size]? = some (.cells (vs .u8 32 fun _ => 0) 24) := (hB1.block _ (by rw [HS0.out]; omega)).trans HR0.out
  have z1 : w.heap.size + 1 < W1.heap.size := by rw [← hW1]; simp [hq]; omega
  have HBW : Hid (Below w.heap.size w W1) := HB0.out.trans (hB1.mono (by rw [HS0.out]; omega))
  have hp := pad_any K H m q s f L W1 HD.out (by rw [← hq]; exact g1) k1 (by omega) hL
  rw [hq]
  have HP := hid hp
  have HR1 := hid r1
  have SQ := hid sq
  clear sq hW1 g1 hB1 k1 hq r1 hp l47 v47
  go_upto_region 5 with (go_at_call 83; refine HP.out.mono ?_; rintro e w2 ⟨rfl, hkp, s', f', hd2, hg2⟩)
  have l40 := lv40_run hg2
  have z2 : w.heap.size + 1 < w2.heap.size := Nat.lt_of_lt_of_le z1 hkp.size
  have r2 : w2.heap[w.heap.size]? = some (.cells (vs .u8 32 fun _ => 0) 24) := (hkp.block _ (by omega) (by have := SQ.out; omega)).trans HR1.out
  have HR2 := hid r2
  have HKP := hid hkp
  have HD2 := hid hd2
  clear hg2 r2 hkp hd2
  go_wp2_with (go_at_call 84; refine (rootOf_any s' _ HD2.out.bd).mono ?_; rintro e w3 ⟨rfl, hb3⟩; have v24 := sv24_run ((hb3.block _ (by omega)).trans HR2.out) (rbt s'))
  have r3 := (hb3.block w.heap.size (by omega)).trans HR2.out
  refine ret24 2 w.heap.size (rbt s') 24 rfl rfl rfl (setRow_at r3) ⟨by rw [dig_sum HD2.out], ?_⟩
  have hq := SQ.out
  exact below_row ((HBW.out.trans (HKP.out.below (by omega) (by omega))).trans (hb3.mono (by omega))) (Nat.le_refl _) _

theorem dig_new (K H m : Nat → Int) (hH : ∀ i, i < 8 → 0 ≤ H i ∧ H i < 4294967296) : Dig K H m 0 H (fun _ => 0) :=
  ⟨fun _ _ => rfl, fun j hj => absurd hj (by omega), fun _ _ => by omega, hH⟩

end Go.Proofs.YtficlakgameglaaDoor

namespace Go.Proofs.YtficlakgameglaaDoor

open Go.RowKit

set_option linter.unusedVariables false

attribute [local go_sem ↓] sv24_eq lv24_eq

set_option maxRecDepth 20000 in
set_option maxHeartbeats 400000 in
theorem sum_any (K H m : Nat → Int) (len cap b0 off : Nat) (w : World) (hH : Tab w 0 8 H) (hK : Tab w 1 64 K) (hB : ∀ i, i < 8 → 0 ≤ H i ∧ H i < 4294967296)
    (hz : ∀ j, j < len → w.cell? ⟨b0, off + j, none⟩ = some (.int .u8 (m j))) (hr : ∀ j, j < len → 0 ≤ m j ∧ m j < 256) (hb : b0 < w.heap.size) (hL : len < 1152921504606846976) (hc : len ≤ cap) (hc' : cap ≤ 9223372036854775807) :
    Calls Tryd.prog 85 #[.slice (some ⟨b0, off, none⟩) len cap] w fun e w' => e = .returned (.agg (vs .u8 32 (shaV K H m len))) ∧ Below w.heap.size w w' := by
  have HHH := hid hH
  have HK := hid hK
  have HBD := hid hB
  have HZ := hid hz
  have HR := hid hr
  clear hH hK hB hz hr
  go_enter Tryd.func85, Tryd.ntmps85
  go_upto_region 1 with fail
  change Code.wp _ _ _ _ (w.alloc (.cells (vs .u8 32 fun _ => 0) 24))
  obtain ⟨W0, hW0⟩ : ∃ W, w.alloc (.cells (vs .u8 32 fun _ => 0) 24) = W := ⟨_, rfl⟩
  rw [hW0]
  have s0 : W0.heap.size = w.heap.size + 1 := by rw [← hW0]; simp
  have hB0 : Below w.heap.size w W0 := by rw [← hW0]; go_grown
  have r0 : W0.heap[w.heap.size]? = some (.cells (vs .u8 32 fun _ => 0) 24) := by rw [← hW0]; exact heap_new rfl
  obtain ⟨W1, hW1⟩ : ∃ W, W0.alloc (.cells (dg H (fun _ => 0) 0) 139) = W := ⟨_, rfl⟩
  have g1 : W1.heap[W0.heap.size]? = some (.cells (dg H (fun _ => 0) ((0 : Nat) : Int)) 139) := by rw [← hW1]; exact heap_new rfl
  have hB1 : Below W0.heap.size W0 W1 := by rw [← hW1]; exact (Below.refl _ _).alloc (Nat.le_refl _) _
  have hn := new_any H W0 (HHH.out.below hB0)
  rw [hW1] at hn
  have hBw : Below w.heap.size w W1 := hB0.trans (hB1.mono (by omega))
  have z1 : W0.heap.size < W1.heap.size := by rw [← hW1]; simp
  have hk0 := HK.out.1
  have hw := write_any K H m W0.heap.size H (fun _ => 0) 0 len cap b0 off W1 (dig_new K H m HBD.out) g1 (HK.out.below hBw) (by omega)
    (fun j hj => by rw [below_cell hBw hb, HZ.out j hj, Nat.zero_add]) (fun j hj => by rw [Nat.zero_add]; exact HR.out j hj) (by omega) (by omega) (by omega) hc hc'
  rw [Nat.zero_add] at hw
  have r1 := (hB1.block w.heap.size (by omega)).trans r0
  have HN := hid hn
  have HW := hid hw
  have HR1 := hid r1
  have HB1 := hid hBw
  have HK1 := hid (HK.out.below hBw)
  have HZ1 := hid (And.intro s0 z1)
  obtain ⟨q, hq⟩ : ∃ q, W0.heap.size = q := ⟨_, rfl⟩
  rw [hq] at HN HW HZ1
  clear hW0 s0 hB0 r0 hW1 g1 hB1 hn hw hBw r1 z1 hq
  go_upto_region 3 with (first
    | (go_at_call 61; refine HN.out.mono ?_; rintro e w1 ⟨rfl, rfl⟩)
    | (go_at_call 62; refine HW.out.mono ?_; rintro e w2 ⟨rfl, hkp, s', f', hd2, hg2⟩))
  have h1 := HZ1.out
  have hs := dsum_any K H m q s' f' len w2 hd2 hg2 (hkp.tab HK1.out (by omega)) hL
  have r2 := (hkp.block w.heap.size (by omega) (by omega)).trans HR1.out
  have hB2 : Below w.heap.size w w2 := HB1.out.trans (hkp.below (by omega) (by omega))
  have hz2 : w.heap.size < w2.heap.size := by have := hkp.size; omega
  have HS := hid hs
  have HR2 := hid r2
  have HB2 := hid hB2
  have HZ2 := hid hz2
  clear h1 hs r2 hB2 hz2 hg2 hd2 hkp
  go_wp2_with (go_at_call 63; refine HS.out.mono ?_; rintro e w3 ⟨rfl, hb3⟩; have v24 := sv24_run ((hb3.block _ HZ2.out).trans HR2.out) (shaV K H m len))
  refine ret24 2 w.heap.size _ 24 rfl rfl rfl (setRow_at ((hb3.block _ HZ2.out).trans HR2.out)) ⟨rfl, ?_⟩
  exact below_row (HB2.out.trans (hb3.mono (Nat.le_of_lt HZ2.out))) (Nat.le_refl _) _

end Go.Proofs.YtficlakgameglaaDoor
