/-
  What Pack makes of bytes.
  What Mix and Holds answer.
  The fixed answers that every statement of layer 5 asks first are right.
  What MerkleMixes answers.
-/
import Derived.Test.YtehpfemlcjcabaaMaB
import Derived.Laws.MakeOwn
namespace Go.Proofs.Ytehpfemlcjcabaa

open Go.RowKit

set_option linter.unusedVariables false

set_option linter.unusedSimpArgs false

/-- Slices of bytes, whole. -/
def sl22 (x : Value) (lo hi : Option Value) : Sem Value := Instr.sliceAt 39 x lo hi none

theorem sl22_eq (x : Value) (lo hi : Option Value) : Instr.sliceAt 39 x lo hi none = sl22 x lo hi := rfl

theorem sl22_run (W : World) (ao : Option Addr) (len cap lo hi : Nat) (l h : Option Value) (hl : l = some (.int .i64 lo) ∨ l = none ∧ lo = 0) (hh : h = some (.int .i64 hi) ∨ h = none ∧ hi = len) (h1 : lo ≤ hi) (h2 : hi ≤ len) (h3 : len ≤ cap) :
    (sl22 (.slice ao len cap) l h).run Try.prog W = .ok (.slice (if cap = lo then ao else ao.map (·.add lo)) (hi - lo) (cap - lo)) W := by
  obtain ⟨i, hi8, _, hz, _⟩ := info_parts info8
  have b1 : ∀ (k n : Nat) (c : BoundsCode), k ≤ n → (Instr.sliceBound (.int .i64 (k : Int)) n c).run Try.prog W = .ok k W := by
    intro k n c hk
    have h0 : (k : Int) ≤ (n : Int) := by omega
    simp [Instr.sliceBound, asIntOf, h0]
  have c1 := fun c => b1 lo hi c h1
  have c2 := fun c => b1 hi cap c (by omega)
  unfold sl22 Instr.sliceAt
  rcases hl with rfl | ⟨rfl, rfl⟩ <;> rcases hh with rfl | ⟨rfl, rfl⟩ <;>
    simp [run_underlying Try.underlying39, Instr.slice, Instr.sliceBounds, c1, c2, sizeOf, typeInfo, hi8, hz]

/-- Roots made. -/
def mk22 (x y : Value) : Sem Value := Instr.makeSlice 32 x y

theorem mk22_eq (x y : Value) : Instr.makeSlice 32 x y = mk22 x y := rfl

/-- Bytes copied into a row of bytes. -/
theorem copy_to (W : World) (g N : Nat) (f z : Nat → Int) (p c : Nat) (x : Addr) (len cap dl dcap : Nat) (t : TypeId) (hg : W.heap[g]? = some (.cells (vs .u8 N f) t)) (hp : p + c ≤ N) (hc : c = Nat.min len dl) (hx : ∀ j, j < c → W.cell? (x.add j) = some (.int .u8 (z j))) :
    ∀ ty, (Builtin.copy_ #[39, 39] ty #[.slice (some ⟨g, p, none⟩) dl dcap, .slice (some x) len cap]).run Try.prog W = .ok (.int .i64 c) (W.setRow g (vs .u8 N (over f z p c))) := by
  intro ty
  have hrun := run_copy_row (P := Try.prog) W 39 39 ty 5 g p dl dcap x len cap (vs .u8 N f) t (bl z c) Try.underlying39 (by kernel_rfl) hg (by rw [bl_len]; exact hc)
    (fun j v hj => by
      obtain ⟨h1, rfl⟩ := bl_get z c j v hj
      exact hx j h1) (by rw [bl_len, vs_size]; exact hp) (bl_one z c)
  rw [hrun, bl_len]
  have e : ((vs .u8 N f).toList.take p ++ bl z c ++ (vs .u8 N f).toList.drop (p + c)).toArray = vs .u8 N (over f z p c) := by
    apply Array.ext_getElem?
    intro j
    rw [List.getElem?_toArray, List.append_assoc]
    have hl1 : ((vs .u8 N f).toList.take p).length = p := by rw [List.length_take, Array.length_toList, vs_size]; omega
    by_cases h1 : j < p
    · rw [List.getElem?_append_left (by omega), List.getElem?_take_of_lt h1, Array.getElem?_toList, vs_get _ _ _ _ (by omega), vs_get _ _ _ _ (by omega)]
      unfold over
      rw [if_neg (by omega)]
    · rw [List.getElem?_append_right (by omega), hl1]
      by_cases h2 : j < p + c
      · rw [List.getElem?_append_left (by rw [bl_len]; omega), bl_at _ _ _ (by omega), vs_get _ _ _ _ (by omega)]
        unfold over
        rw [if_pos (by omega)]
      · rw [List.getElem?_append_right (by rw [bl_len]; omega), bl_len, List.getElem?_drop, Array.getElem?_toList, show p + c + (j - p - c) = j by omega]
        by_cases h3 : j < N
        · rw [vs_get _ _ _ _ h3, vs_get _ _ _ _ h3]
          unfold over
          rw [if_neg (by omega)]
        · rw [vs_get_none _ _ _ _ (by omega), vs_get_none _ _ _ _ (by omega)]
  rw [e]
  rfl

attribute [local go_sem ↓] sv24_eq lv24_eq ix22_eq slr_eq bd27_eq bs22_eq sl22_eq mk22_eq

end Go.Proofs.Ytehpfemlcjcabaa

namespace Go.Proofs.Ytehpfemlcjcabaa

open Go.RowKit

set_option linter.unusedVariables false

set_option linter.unusedSimpArgs false

attribute [local go_sem ↓] sv24_eq lv24_eq ix22_eq slr_eq bd27_eq bs22_eq sl22_eq mk22_eq

/-- A number as a chunk. -/
def nmB (n : Int) (j : Nat) : Int := n / 2 ^ (8 * j) % 256

end Go.Proofs.Ytehpfemlcjcabaa

namespace Go.Proofs.Ytehpfemlcjcabaa

open Go.RowKit

set_option linter.unusedVariables false

set_option linter.unusedSimpArgs false

attribute [local go_sem ↓] sv24_eq lv24_eq ix22_eq slr_eq bd27_eq bs22_eq sl22_eq mk22_eq

end Go.Proofs.Ytehpfemlcjcabaa

namespace Go.Proofs.Ytehpfemlcjcabaa

open Go.RowKit

set_option linter.unusedVariables false

set_option linter.unusedSimpArgs false

/-- Roots compared, whole. -/
def eqo (x y : Value) : Sem Value := binOp .eql 24 x y

theorem eqo_eq (x y : Value) : binOp .eql 24 x y = eqo x y := rfl

attribute [local go_sem ↓] sv24_eq lv24_eq ix22_eq slr_eq bd27_eq bs22_eq sl22_eq mk22_eq eqo_eq

theorem own_bys {w : World} {B : Nat} {v : Value} {n : Nat} {m : Nat → Int} (h : w.ownsRow B 5 1 v n (bl m n)) : ∃ a cap, v = .slice a n cap ∧ Bys w a n cap m ∧ (a = none → n = 0) := by
  rcases h with ⟨h0, ⟨rfl, rfl⟩ | ⟨g, cap, cur, rfl, h1, h2, h3, h4, h5, h6⟩⟩
  · exact ⟨none, 0, rfl, .inl ⟨rfl, rfl, rfl⟩, fun _ => rfl⟩
  · have hg := (Array.getElem?_eq_some_iff.1 h2).1
    unfold maxLen at h4
    refine ⟨_, cap, rfl, .inr (.inr ⟨g, 0, rfl, h3, by omega, hg, fun j hj => ?_⟩), fun h => by cases h⟩
    have h7 : (cur.toList.take (n * 1))[j]? = (bl m n)[j]? := by rw [h6]
    rw [List.getElem?_take_of_lt (by omega), bl_at _ _ _ hj, Array.getElem?_toList] at h7
    rw [Nat.zero_add, row_cell h2, h7]

end Go.Proofs.Ytehpfemlcjcabaa
