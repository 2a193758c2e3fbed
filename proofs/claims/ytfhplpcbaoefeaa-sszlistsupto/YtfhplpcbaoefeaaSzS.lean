/-
  What word.Bytes, ssz.appendOffset and ssz.totalLength answer.
-/
import Derived.Test.YtfhplpcbaoefeaaSzR
namespace Go.Proofs.Ytfhplpcbaoefeaa
open Go.RowKit
set_option linter.unusedVariables false
set_option linter.unusedSimpArgs false

/-- The byte at place i, the lowest first. -/
def bt (n : Int) : Nat → Int
  | 0 => n % 256
  | 1 => n / 256 % 256
  | 2 => n / 65536 % 256
  | 3 => n / 16777216 % 256
  | 4 => n / 4294967296 % 256
  | 5 => n / 1099511627776 % 256
  | 6 => n / 281474976710656 % 256
  | _ => n / 72057594037927936 % 256

set_option maxHeartbeats 1000000 in
theorem bytes_any (n : Int) (w : World) (h0 : 0 ≤ n) (h1 : n < 18446744073709551616) :
    Calls Try.prog 29 #[.int .u64 n] w fun e w' => e = .returned (.agg #[.int .u8 (bt n 0), .int .u8 (bt n 1), .int .u8 (bt n 2), .int .u8 (bt n 3), .int .u8 (bt n 4), .int .u8 (bt n 5), .int .u8 (bt n 6), .int .u8 (bt n 7)]) ∧ Below w.heap.size w w' := by
  show Calls Try.prog 29 #[.int .u64 n] w fun e w' => e = .returned (.agg #[.int .u8 (n % 256), .int .u8 (n / 256 % 256), .int .u8 (n / 65536 % 256), .int .u8 (n / 16777216 % 256), .int .u8 (n / 4294967296 % 256), .int .u8 (n / 1099511627776 % 256), .int .u8 (n / 281474976710656 % 256), .int .u8 (n / 72057594037927936 % 256)]) ∧ Below w.heap.size w w'
  go_enter Try.func29, Try.ntmps29
  go_wp2
  go_rounds 9
  go_returns
  have e7 : n / 72057594037927936 % 256 = n / 72057594037927936 := by omega
  rw [e7]
  refine ⟨rfl, ?_⟩
  go_grown

/-- Bytes as values. -/
def iv (l : List Int) : List Value := l.map (Value.int .u8)
theorem iv_len (l : List Int) : (iv l).length = l.length := by simp [iv]
theorem iv_append (l r : List Int) : iv (l ++ r) = iv l ++ iv r := by simp [iv]
/-- Four bytes of a number, the lowest first. -/
def fourL (x : Nat) : List Int := [bt x 0, bt x 1, bt x 2, bt x 3]

theorem bl_four (x : Nat) : bl (fun j => bt x j) 4 = iv (fourL x) := rfl
theorem row8_bys (w : World) (x : Nat) (b0 b1 b2 b3 b4 b5 b6 b7 : Int) (t : TypeId) (h : bt x 0 = b0 ∧ bt x 1 = b1 ∧ bt x 2 = b2 ∧ bt x 3 = b3) :
    Bys (w.alloc (.cells #[.int .u8 b0, .int .u8 b1, .int .u8 b2, .int .u8 b3, .int .u8 b4, .int .u8 b5, .int .u8 b6, .int .u8 b7] t)) (some ⟨w.heap.size, 0, none⟩) 4 8 (fun j => bt x j) := by
  obtain ⟨rfl, rfl, rfl, rfl⟩ := h
  refine .inr (.inr ⟨w.heap.size, 0, rfl, by omega, by omega, by simp, fun j hj => ?_⟩)
  rw [Nat.zero_add, row_cell (heap_new rfl) j]
  rcases (by omega : j = 0 ∨ j = 1 ∨ j = 2 ∨ j = 3) with rfl | rfl | rfl | rfl <;> rfl

set_option maxHeartbeats 400000 in
theorem appendoff_any (v : Value) (n : Nat) (xs : List Int) (x B : Nat) (w : World) (ho : w.ownsRow B 5 1 v n (iv xs)) (hx : x < 4294967296) (hn : n + 4 ≤ 140737488355328) (hB : B ≤ w.heap.size) :
    Calls Try.prog 22 #[v, .int .u64 x] w fun e w' => ∃ v', e = .returned v' ∧ w'.ownsRow B 5 1 v' (n + 4) (iv (xs ++ fourL x)) ∧ Below B w w' := by
  have HBY := hid (bytes_any x w (by omega) (by omega))
  have HO := hid ho
  clear ho
  obtain ⟨b0, e0⟩ : ∃ b, bt x 0 = b := ⟨_, rfl⟩
  obtain ⟨b1, e1⟩ : ∃ b, bt x 1 = b := ⟨_, rfl⟩
  obtain ⟨b2, e2⟩ : ∃ b, bt x 2 = b := ⟨_, rfl⟩
  obtain ⟨b3, e3⟩ : ∃ b, bt x 3 = b := ⟨_, rfl⟩
  obtain ⟨b4, e4⟩ : ∃ b, bt x 4 = b := ⟨_, rfl⟩
  obtain ⟨b5, e5⟩ : ∃ b, bt x 5 = b := ⟨_, rfl⟩
  obtain ⟨b6, e6⟩ : ∃ b, bt x 6 = b := ⟨_, rfl⟩
  obtain ⟨b7, e7⟩ : ∃ b, bt x 7 = b := ⟨_, rfl⟩
  rw [e0, e1, e2, e3, e4, e5, e6, e7] at HBY
  have EE := hid (And.intro e0 (And.intro e1 (And.intro e2 e3)))
  clear e0 e1 e2 e3 e4 e5 e6 e7
  go_enter Try.func22, Try.ntmps22
  go_wp2_with (first
    | (go_at_call 29; refine HBY.out.mono ?_; rintro e w1 ⟨rfl, hb1⟩; have HB1 := hid hb1; clear hb1)
    | (at_builtin; refine wpList_append_bys _ rfl _ _ rfl B v n (iv xs) rfl (owns_below HO.out (HB1.out.alloc HB1.out.size _)) (some ⟨w1.heap.size, 0, none⟩) 4 8 (fun j => bt x j) rfl (row8_bys w1 x _ _ _ _ _ _ _ _ _ EE.out) (by omega) (by have := HB1.out.size; simp; omega) ?_; intro v2 w2 ho2 hg2; have HG2 := hid hg2; have HO2 := hid ho2; clear hg2 ho2))
  go_ret
  have hb1 : Below B w (w1.alloc (.cells #[.int .u8 b0, .int .u8 b1, .int .u8 b2, .int .u8 b3, .int .u8 b4, .int .u8 b5, .int .u8 b6, .int .u8 b7] 54)) := (HB1.out.alloc HB1.out.size _).mono hB
  refine ⟨_, rfl, ?_, below_grown hb1 (owns_below HO.out (HB1.out.alloc HB1.out.size _)) (by have := HB1.out.size; simp; omega) HG2.out⟩
  rw [iv_append, ← bl_four]
  exact HO2.out

end Go.Proofs.Ytfhplpcbaoefeaa
