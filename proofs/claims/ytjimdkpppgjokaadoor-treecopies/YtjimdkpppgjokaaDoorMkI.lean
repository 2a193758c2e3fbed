/-
  What Pack makes of bytes.
-/
import Derived.Test.YtjimdkpppgjokaaDoorMkH
import Derived.Laws.MakeOwn
namespace Go.Proofs.YtjimdkpppgjokaaDoor
open Go.RowKit
set_option linter.unusedVariables false
set_option linter.unusedSimpArgs false

/-- Slices of bytes, whole. -/
def sl22 (x : Value) (lo hi : Option Value) : Sem Value := Instr.sliceAt 75 x lo hi none
theorem sl22_eq (x : Value) (lo hi : Option Value) : Instr.sliceAt 75 x lo hi none = sl22 x lo hi := rfl
theorem sl22_run (W : World) (ao : Option Addr) (len cap lo hi : Nat) (l h : Option Value) (hl : l = some (.int .i64 lo) ∨ l = none ∧ lo = 0) (hh : h = some (.int .i64 hi) ∨ h = none ∧ hi = len) (h1 : lo ≤ hi) (h2 : hi ≤ len) (h3 : len ≤ cap) :
    (sl22 (.slice ao len cap) l h).run Tryd.prog W = .ok (.slice (if cap = lo then ao else ao.map (·.add lo)) (hi - lo) (cap - lo)) W := by
  obtain ⟨i, hi8, _, hz, _⟩ := info_parts info8
  have b1 : ∀ (k n : Nat) (c : BoundsCode), k ≤ n → (Instr.sliceBound (.int .i64 (k : Int)) n c).run Tryd.prog W = .ok k W := by
    intro k n c hk
    have h0 : (k : Int) ≤ (n : Int) := by omega
    simp [Instr.sliceBound, asIntOf, h0]
  have c1 := fun c => b1 lo hi c h1
  have c2 := fun c => b1 hi cap c (by omega)
  unfold sl22 Instr.sliceAt
  rcases hl with rfl | ⟨rfl, rfl⟩ <;> rcases hh with rfl | ⟨rfl, rfl⟩ <;>
    simp [run_underlying Tryd.underlying75, Instr.slice, Instr.sliceBounds, c1, c2, sizeOf, typeInfo, hi8, hz]
/-- Roots made. -/
def mk22 (x y : Value) : Sem Value := Instr.makeSlice 26 x y
theorem mk22_eq (x y : Value) : Instr.makeSlice 26 x y = mk22 x y := rfl
theorem made_rts (n : Nat) : madeCells (vs .u8 32 fun _ => 0) (n * 32) = vs .u8 (32 * n) (fun _ => 0) := by
  apply Array.ext_getElem?
  intro j
  by_cases hj : j < 32 * n
  · rw [vs_get _ _ _ _ hj]
    have hs : (vs .u8 32 fun _ => 0).size = 32 := vs_size _ _ _
    have hj2 : j < n * 32 := by omega
    simp [madeCells, hj2]
    have h3 := vs_get .u8 32 (fun _ => 0) (j % (vs .u8 32 fun _ => 0).size) (by rw [hs]; omega)
    rw [getElem!_def, h3]
  · rw [Array.getElem?_eq_none (by rw [size_madeCells]; omega), Array.getElem?_eq_none (by rw [vs_size]; omega)]
theorem mk22_run (W : World) (n : Nat) (hn : 32 * n ≤ 281474976710656) : (mk22 (.int .i64 n) (.int .i64 n)).run Tryd.prog W = .ok (.slice (some ⟨W.heap.size, 0, none⟩) n n) (W.alloc (.cells (vs .u8 (32 * n) (fun _ => 0)) 33)) := by
  obtain ⟨i, hi, hz0, hz1, hz2⟩ := infoR
  have h := run_make (P := Tryd.prog) W 26 33 i _ Tryd.underlying26 hi hz0 .i64 .i64 n n (by omega) (Int.le_refl _) (by rw [hz2]; omega) (by omega)
  rw [hz1, Int.toNat_natCast] at h
  unfold mk22
  rw [h]
  have e : (Value.agg (vs .u8 32 fun _ => 0)).cells = vs .u8 32 fun _ => 0 := rfl
  rw [e, made_rts]

/-- Bytes copied into a row of bytes. -/
theorem copy_to (W : World) (g N : Nat) (f z : Nat → Int) (p c : Nat) (x : Addr) (len cap dl dcap : Nat) (t : TypeId) (hg : W.heap[g]? = some (.cells (vs .u8 N f) t)) (hp : p + c ≤ N) (hc : c = Nat.min len dl) (hx : ∀ j, j < c → W.cell? (x.add j) = some (.int .u8 (z j))) :
    ∀ ty, (Builtin.copy_ #[75, 75] ty #[.slice (some ⟨g, p, none⟩) dl dcap, .slice (some x) len cap]).run Tryd.prog W = .ok (.int .i64 c) (W.setRow g (vs .u8 N (over f z p c))) := by
  intro ty
  have hrun := run_copy_row (P := Tryd.prog) W 75 75 ty 5 g p dl dcap x len cap (vs .u8 N f) t (bl z c) Tryd.underlying75 (by kernel_rfl) hg (by rw [bl_len]; exact hc)
    (fun j v hj => by
      obtain ⟨h1, rfl⟩ := bl_get z c j v hj
      exact hx j h1) (by rw [bl_len, vs_size]; exact hp) (bl_one z c)
  rw [hrun, bl_len]
  have e : ((vs .u8 N f).toList.take p ++ bl z c ++ (vs .u8 N f).toList.drop (p + c)).toArray = vs .u8 N (over f z p c) := by
    apply Array.ext_getElem?
    intro j
    rw [List.getElem?_toArray, List.append_assoc]
    have hl1 : ((vs .u8 N f).toList.take p).length = p := by rw [List.length_take, Array.length_toList, vs_size]; omega
    by_cases h1 : j < p
    · rw [List.getElem?_append_left (by omega), List.getElem?_take_of_lt h1, Array.getElem?_toList, vs_get _ _ _ _ (by omega), vs_get _ _ _ _ (by omega)]
      unfold over
      rw [if_neg (by omega)]
    · rw [List.getElem?_append_right (by omega), hl1]
      by_cases h2 : j < p + c
      · rw [List.getElem?_append_left (by rw [bl_len]; omega), bl_at _ _ _ (by omega), vs_get _ _ _ _ (by omega)]
        unfold over
        rw [if_pos (by omega)]
      · rw [List.getElem?_append_right (by rw [bl_len]; omega), bl_len, List.getElem?_drop, Array.getElem?_toList, show p + c + (j - p - c) = j by omega]
        by_cases h3 : j < N
        · rw [vs_get _ _ _ _ h3, vs_get _ _ _ _ h3]
          unfold over
          rw [if_neg (by omega)]
        · rw [vs_get_none _ _ _ _ (by omega), vs_get_none _ _ _ _ (by omega)]
  rw [e]
  rfl

/-- The packed bytes, k chunks written. -/
def pkU (m : Nat → Int) (len k : Nat) (q : Nat) : Int := if q < 32 * k ∧ q < len then m q else 0
theorem pkU_step (m : Nat → Int) (len k : Nat) (hk : 32 * k < len) (q : Nat) : over (pkU m len k) (fun j => m (32 * k + j)) (32 * k) (Nat.min (len - 32 * k) 32) q = pkU m len (k + 1) q := by
  have h32 : Nat.min (len - 32 * k) 32 = if len - 32 * k ≤ 32 then len - 32 * k else 32 := by
    by_cases h : len - 32 * k ≤ 32
    · rw [if_pos h]; exact Nat.min_eq_left h
    · rw [if_neg h]; exact Nat.min_eq_right (by omega)
  generalize Nat.min (len - 32 * k) 32 = c at h32
  unfold over pkU
  by_cases h1 : 32 * k ≤ q ∧ q < 32 * k + c
  · rw [if_pos h1, if_pos (by split at h32 <;> omega)]
    show m (32 * k + (q - 32 * k)) = m q
    rw [show 32 * k + (q - 32 * k) = q by omega]
  · rw [if_neg h1]
    by_cases h2 : q < 32 * k ∧ q < len
    · rw [if_pos h2, if_pos (by omega)]
    · rw [if_neg h2, if_neg (by split at h32 <;> omega)]
/-- The packed bytes. -/
def pk (m : Nat → Int) (len : Nat) (q : Nat) : Int := if q < len then m q else 0
theorem pk_bd {m : Nat → Int} {len : Nat} (h : ∀ q, q < len → 0 ≤ m q ∧ m q < 256) (n : Nat) : ByB (pk m len) n := fun q _ => by
  unfold pk
  by_cases hq : q < len
  · rw [if_pos hq]; exact h q hq
  · rw [if_neg hq]; omega

attribute [local go_sem ↓] sv24_eq lv24_eq ix22_eq slr_eq lv48_eq sv48_eq bd48_eq bd27_eq bs22_eq sl22_eq mk22_eq

end Go.Proofs.YtjimdkpppgjokaaDoor
