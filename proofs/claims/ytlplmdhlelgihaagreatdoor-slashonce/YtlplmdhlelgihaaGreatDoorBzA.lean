/-
  Bits and bytes: what Vector, List, ReadVector and the reference answer (of the texts of layer 4, what others stand on).
-/

import Derived.Test.YtlplmdhlelgihaaGreatDoorQB
namespace Go.Proofs.YtlplmdhlelgihaaGreatDoor.Z

open Go.RowKit

set_option linter.unusedVariables false

set_option linter.unusedSimpArgs false

/-- The number whose lowest n bits are g's. -/
def bo (g : Nat → Bool) : Nat → Nat
  | 0 => 0
  | k + 1 => bo g k + (if g k = true then 2 ^ k else 0)

theorem bo_lt (g : Nat → Bool) (k : Nat) : bo g k < 2 ^ k := by
  induction k with
  | zero => simp [bo]
  | succ k ih =>
    unfold bo
    rw [Nat.pow_succ]
    split <;> omega

theorem bo_bit (g : Nat → Bool) (n k : Nat) : (bo g n).testBit k = (decide (k < n) && g k) := by
  induction n with
  | zero => simp [bo]
  | succ n ih =>
    have hl := bo_lt g n
    unfold bo
    by_cases hg : g n = true
    · rw [if_pos hg, Nat.add_comm]
      by_cases h : k < n
      · rw [Nat.testBit_two_pow_add_gt h, ih]
        simp [h, Nat.lt_succ_of_lt h]
      · by_cases e : k = n
        · subst e
          rw [Nat.testBit_two_pow_add_eq, Nat.testBit_lt_two_pow hl]
          simp [hg]
        · rw [Nat.testBit_lt_two_pow]
          · simp [show ¬ k < n + 1 by omega]
          · have : 2 ^ (n + 1) ≤ 2 ^ k := Nat.pow_le_pow_right (by omega) (by omega)
            rw [Nat.pow_succ] at this
            omega
    · rw [if_neg hg, Nat.add_zero, ih]
      by_cases e : k = n
      · subst e
        simp at hg
        simp [hg]
      · have : k < n + 1 ↔ k < n := by omega
        simp [this]

/-- The byte q of the bytes of the first n bits of f. -/
def byt (f : Nat → Bool) (n q : Nat) : Nat := bo (fun k => decide (8 * q + k < n) && f (8 * q + k)) 8

theorem byt_lt (f : Nat → Bool) (n q : Nat) : byt f n q < 256 := bo_lt _ 8

theorem byt_bit (f : Nat → Bool) (n q k : Nat) : (byt f n q).testBit k = (decide (k < 8) && (decide (8 * q + k < n) && f (8 * q + k))) := bo_bit _ 8 k

theorem byt_zero (f : Nat → Bool) (q : Nat) : byt f 0 q = 0 := by
  apply Nat.eq_of_testBit_eq
  intro k
  rw [byt_bit]
  simp

theorem byt_other (f : Nat → Bool) (n q : Nat) (h : q ≠ n / 8) : byt f (n + 1) q = byt f n q := by
  apply Nat.eq_of_testBit_eq
  intro k
  rw [byt_bit, byt_bit]
  by_cases hk : k < 8
  · have : 8 * q + k < n + 1 ↔ 8 * q + k < n := by omega
    simp [this]
  · simp [hk]

theorem byt_skip (f : Nat → Bool) (n q : Nat) (h : f n = false) : byt f (n + 1) q = byt f n q := by
  apply Nat.eq_of_testBit_eq
  intro k
  rw [byt_bit, byt_bit]
  by_cases e : 8 * q + k = n
  · rw [e, h]
    simp
  · have : 8 * q + k < n + 1 ↔ 8 * q + k < n := by omega
    simp [this]

theorem byt_or (f : Nat → Bool) (n : Nat) (h : f n = true) : byt f n (n / 8) ||| 2 ^ (n % 8) = byt f (n + 1) (n / 8) := by
  apply Nat.eq_of_testBit_eq
  intro k
  rw [Nat.testBit_or, byt_bit, byt_bit, Nat.testBit_two_pow]
  by_cases hk : k < 8
  · by_cases e : n % 8 = k
    · have e2 : 8 * (n / 8) + k = n := by omega
      rw [e2, h]
      simp [e, hk]
    · have : 8 * (n / 8) + k < n + 1 ↔ 8 * (n / 8) + k < n := by omega
      simp [this, e]
  · have : ¬ n % 8 = k := by omega
    simp [hk, this]

theorem byt_low (f : Nat → Bool) (n : Nat) : byt f n (n / 8) < 2 ^ (n % 8) := by
  apply Nat.lt_pow_two_of_testBit
  intro k hk
  rw [byt_bit]
  simp [show ¬ 8 * (n / 8) + k < n by omega]

theorem byt_add (f : Nat → Bool) (n : Nat) (h : f n = true) : byt f n (n / 8) + 2 ^ (n % 8) = byt f (n + 1) (n / 8) := by
  rw [← byt_or f n h, Nat.or_comm, Nat.add_comm]
  have := Nat.two_pow_add_eq_or_of_lt (byt_low f n) 1
  simpa using this

end Go.Proofs.YtlplmdhlelgihaaGreatDoor.Z

namespace Go.Proofs.YtlplmdhlelgihaaGreatDoor.Z

open Go.RowKit

set_option linter.unusedVariables false

set_option linter.unusedSimpArgs false

/-- The bits of a slice, whatever it is. -/
def Bls (w : World) (a : Option Addr) (len cap : Nat) (f : Nat → Bool) : Prop :=
  (a = none ∧ len = 0 ∧ cap = 0) ∨ (∃ x, a = some x ∧ len = 0) ∨ ∃ b off, a = some ⟨b, off, none⟩ ∧ len ≤ cap ∧ cap ≤ 9223372036854775807 ∧ b < w.heap.size ∧ ∀ j, j < len → w.cell? ⟨b, off + j, none⟩ = some (.bool (f j))

theorem Bls.below {w w' : World} {a : Option Addr} {len cap : Nat} {f : Nat → Bool} (h : Bls w a len cap f) (hb : Below w.heap.size w w') : Bls w' a len cap f := by
  rcases h with h | h | ⟨b, off, h1, h2, h3, h4, h5⟩
  · exact .inl h
  · exact .inr (.inl h)
  · exact .inr (.inr ⟨b, off, h1, h2, h3, Nat.lt_of_lt_of_le h4 hb.size, fun j hj => (below_cell hb h4).trans (h5 j hj)⟩)

theorem bls_at {w : World} {a : Option Addr} {len cap : Nat} {f : Nat → Bool} (h : Bls w a len cap f) (j : Nat) (hj : j < len) : ∃ b off, a = some ⟨b, off, none⟩ ∧ b < w.heap.size ∧ w.cell? ⟨b, off + j, none⟩ = some (.bool (f j)) := by
  rcases h with ⟨_, h, _⟩ | ⟨_, _, h⟩ | ⟨b, off, h1, h2, h3, h4, h5⟩
  · omega
  · omega
  · exact ⟨b, off, h1, h4, h5 j hj⟩

end Go.Proofs.YtlplmdhlelgihaaGreatDoor.Z

namespace Go.Proofs.YtlplmdhlelgihaaGreatDoor.Z

open Go.RowKit

set_option linter.unusedVariables false

set_option linter.unusedSimpArgs false

theorem made_vals (z : Value) (n : Nat) : madeCells #[z] n = vals n (fun _ => z) := by
  apply Array.ext_getElem?
  intro j
  by_cases hj : j < n
  · rw [vals_get _ _ _ hj]
    simp [madeCells, hj, Nat.mod_one]
  · rw [Array.getElem?_eq_none (by rw [size_madeCells]; omega), Array.getElem?_eq_none (by rw [vals_size]; omega)]

theorem made_vs (n : Nat) : madeCells #[.int .u8 0] n = vs .u8 n (fun _ => 0) := made_vals _ n

theorem make_bytes (W : World) (n : Nat) (hn : n ≤ 140737488355328) : (Instr.makeSlice 39 (.int .i64 n) (.int .i64 n)).run Tryz.prog W = .ok (.slice (some ⟨W.heap.size, 0, none⟩) n n) (W.alloc (.cells (vs .u8 n (fun _ => 0)) 5)) := by
  obtain ⟨i, hi, hz0, hz1, hz2⟩ := info_parts info8
  have h := run_make (P := Tryz.prog) W 39 5 i (.int .u8 0) Tryz.underlying39 hi hz0 .i64 .i64 n n (by omega) (Int.le_refl _) (by rw [hz2]; omega) (by omega)
  rw [hz1, Int.toNat_natCast, Nat.mul_one] at h
  rw [h, ← made_vs]
  rfl

theorem bys_at {w : World} {a : Option Addr} {len cap : Nat} {m : Nat → Int} (h : Bys w a len cap m) (j : Nat) (hj : j < len) : ∃ b off, a = some ⟨b, off, none⟩ ∧ b < w.heap.size ∧ w.cell? ⟨b, off + j, none⟩ = some (.int .u8 (m j)) := by
  rcases h with ⟨_, h, _⟩ | ⟨_, _, h⟩ | ⟨b, off, h1, h2, h3, h4, h5⟩
  · omega
  · omega
  · exact ⟨b, off, h1, h4, h5 j hj⟩

end Go.Proofs.YtlplmdhlelgihaaGreatDoor.Z

namespace Go.Proofs.YtlplmdhlelgihaaGreatDoor.Z

open Go.RowKit

set_option linter.unusedVariables false

set_option linter.unusedSimpArgs false

theorem vs0 (f : Nat → Bool) (N : Nat) : vs .u8 N (fun _ => 0) = vs .u8 N (fun q => (byt f 0 q : Int)) := vs_congr fun q _ => by rw [byt_zero]; rfl

end Go.Proofs.YtlplmdhlelgihaaGreatDoor.Z

namespace Go.Proofs.YtlplmdhlelgihaaGreatDoor.Z

open Go.RowKit

set_option linter.unusedVariables false

set_option linter.unusedSimpArgs false

/-- A slice of bits, whole. -/
def slB (x : Value) (lo hi : Option Value) : Sem Value := Instr.sliceAt 105 x lo hi none

theorem slB_eq (x : Value) (lo hi : Option Value) : Instr.sliceAt 105 x lo hi none = slB x lo hi := rfl

end Go.Proofs.YtlplmdhlelgihaaGreatDoor.Z

namespace Go.Proofs.YtlplmdhlelgihaaGreatDoor.Z

open Go.RowKit

set_option linter.unusedVariables false

set_option linter.unusedSimpArgs false

theorem add_pow (B r : Nat) (hr : r < 8) (hs : B + 2 ^ r < 256) : ((B : Int) + 2 ^ r) % 256 = ((B + 2 ^ r : Nat) : Int) := by
  rw [show ((2 : Int) ^ r) = ((2 ^ r : Nat) : Int) by simp, ← Int.natCast_add]
  exact Int.emod_eq_of_lt (Int.natCast_nonneg _) (Int.ofNat_lt.2 hs)

set_option maxHeartbeats 400000 in
theorem rvector_any (f : Nat → Bool) (a : Option Addr) (n cap : Nat) (w : World) (h : Bls w a n cap f) (hnb : n ≤ 140737488355328) :
    Calls Tryz.prog 47 #[.slice a n cap] w fun e w' => e = .returned (.slice (some ⟨w.heap.size, 0, none⟩) ((n + 7) / 8) ((n + 7) / 8)) ∧ w'.heap[w.heap.size]? = some (.cells (vs .u8 ((n + 7) / 8) (fun q => (byt f n q : Int))) 5) ∧ Below w.heap.size w w' ∧ w'.heap.size = w.heap.size + 1 := by
  have hmk := make_bytes w ((n + 7) / 8) (by omega)
  obtain ⟨N, eN⟩ : ∃ N, (n + 7) / 8 = N := ⟨_, rfl⟩
  have eN' : ((n : Int) + 7) / 8 = (N : Int) := by omega
  have hN : n ≤ 8 * N := by omega
  rw [eN] at hmk ⊢
  have H := hid h
  have hn : (n : Int) ≤ 140737488355328 := by omega
  have n0 : (0 : Int) ≤ (n : Int) := by omega
  clear h eN
  go_enter Tryz.func47, Tryz.ntmps47
  go_wp2
  go_loopw [4] (fun v wr => ∃ k : Nat, k ≤ n ∧ v = .int .i64 k ∧ wr.heap[w.heap.size]? = some (.cells (vs .u8 N (fun q => (byt f k q : Int))) 5) ∧ Below w.heap.size w wr ∧ wr.heap.size = w.heap.size + 1) (fun v _ => n - (intOf v).toNat)
  case atStart => exact ⟨0, by omega, rfl, (heap_new rfl).trans (by rw [vs0 f]), (Below.refl _ _).alloc (Nat.le_refl _) _, by simp⟩
  case round =>
    obtain ⟨k, hk, rfl, hr, hb, hz⟩ := hrel
    clear hmk
    by_cases hkn : k < n
    · obtain ⟨b, off, rfl, hbb, ck0⟩ := bls_at H.out k hkn
      have ck := (below_cell hb hbb).trans ck0
      obtain ⟨x, ex⟩ : ∃ x, f k = x := ⟨_, rfl⟩
      rw [ex] at ck
      have k1 : (k : Int) < (n : Int) := by omega
      have k2 : (0 : Int) ≤ (k : Int) := by omega
      have HR := hid hr
      have HB := hid hb
      have HZ := hid hz
      have EX := hid ex
      clear ck0 ex
      cases x
      · clear hr hb hz
        go_wp2
        go_roundw
        case rel =>
          refine ⟨k + 1, by omega, by go_num, ?_, HB.out, HZ.out⟩
          rw [HR.out]
          exact congrArg (fun c => some (Obj.cells c 5)) (vs_congr fun q _ => by rw [byt_skip f k q EX.out])
        case measure => simp [intOf]; omega
      · have cq := row_int hr (k / 8) (by omega)
        have fq := row_frozen hr (k / 8)
        obtain ⟨q, eq⟩ : ∃ q, k / 8 = q := ⟨_, rfl⟩
        obtain ⟨B, eB⟩ : ∃ B, byt f k q = B := ⟨_, rfl⟩
        obtain ⟨r, er⟩ : ∃ r, k % 8 = r := ⟨_, rfl⟩
        have e1 : (k : Int) / 8 = (q : Int) := by omega
        have e2 : (k : Int) % 8 = (r : Int) := by omega
        have q1 : (q : Int) < (N : Int) := by omega
        have q2 : (0 : Int) ≤ (q : Int) := by omega
        have r1 : (r : Int) < 8 := by omega
        have r2 : (0 : Int) ≤ (r : Int) := by omega
        rw [eq] at cq fq
        rw [eB] at cq
        have EE := hid (And.intro eq (And.intro er eB))
        clear hr hb hz eq er eB
        go_wp2
        go_roundw
        case rel =>
          obtain ⟨eq, er, eB⟩ := EE.out
          refine ⟨k + 1, by omega, by go_num, ?_, HB.out.setCell (by simp) _, ?_⟩
          · refine (row_set HR.out q _).trans ?_
            rw [vs_set]
            refine congrArg (fun c => some (Obj.cells c 5)) (vs_congr fun i _ => ?_)
            by_cases hi : i = q
            · have e3 := byt_add f k EX.out
              have e4 := byt_lt f (k + 1) (k / 8)
              rw [← e3, eq, er, eB] at e4
              rw [eq, er, eB] at e3
              rw [if_pos hi, add_pow B r (by omega) e4, hi, e3]
            · rw [if_neg hi, byt_other f k i (by omega)]
          · exact (size_set _ _ _).trans HZ.out
        case measure => simp [intOf]; omega
    · have ek : k = n := by omega
      subst ek
      have HR := hid hr
      have HB := hid hb
      clear hr hb
      go_wp2
      go_ret
      exact ⟨rfl, HR.out, HB.out, hz⟩

end Go.Proofs.YtlplmdhlelgihaaGreatDoor.Z

namespace Go.Proofs.YtlplmdhlelgihaaGreatDoor.Z

open Go.RowKit

set_option linter.unusedVariables false

set_option linter.unusedSimpArgs false

end Go.Proofs.YtlplmdhlelgihaaGreatDoor.Z

namespace Go.Proofs.YtlplmdhlelgihaaGreatDoor.Z

open Go.RowKit

set_option linter.unusedVariables false

set_option linter.unusedSimpArgs false

attribute [local go_sem ↓] slB_eq

end Go.Proofs.YtlplmdhlelgihaaGreatDoor.Z
