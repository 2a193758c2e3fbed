/-
  What the reference's four and LayMany answer.
-/
import Derived.Test.YtppjpodlnelomaaSzU
namespace Go.Proofs.Ytppjpodlnelomaa
open Go.RowKit
set_option linter.unusedVariables false
set_option linter.unusedSimpArgs false

theorem rfour_any (x : Nat) (w : World) (hx : x < 4611686018427387904) :
    Calls Try.prog 35 #[.int .i64 x] w fun e w' => e = .returned (.slice (some ⟨w.heap.size, 0, none⟩) 4 4) ∧ w' = w.alloc (.cells #[.int .u8 (bt x 0), .int .u8 (bt x 1), .int .u8 (bt x 2), .int .u8 (bt x 3)] 5) := by
  have h1 : (x : Int) < 4611686018427387904 := by omega
  have h0 : (0 : Int) ≤ (x : Int) := by omega
  show Calls Try.prog 35 #[.int .i64 x] w fun e w' => e = .returned (.slice (some ⟨w.heap.size, 0, none⟩) 4 4) ∧ w' = w.alloc (.cells #[.int .u8 ((x : Int) % 256), .int .u8 ((x : Int) / 256 % 256), .int .u8 ((x : Int) / 65536 % 256), .int .u8 ((x : Int) / 16777216 % 256)] 5)
  go_enter Try.func35, Try.ntmps35
  go_wp2
  go_ret
  exact ⟨rfl, rfl⟩
theorem row4_bys (w : World) (x : Nat) : Bys (w.alloc (.cells #[.int .u8 (bt x 0), .int .u8 (bt x 1), .int .u8 (bt x 2), .int .u8 (bt x 3)] 5)) (some ⟨w.heap.size, 0, none⟩) 4 4 (fun j => bt x j) := by
  refine .inr (.inr ⟨w.heap.size, 0, rfl, by omega, by omega, by simp, fun j hj => ?_⟩)
  rw [Nat.zero_add, row_cell (heap_new rfl) j]
  rcases (by omega : j = 0 ∨ j = 1 ∨ j = 2 ∨ j = 3) with rfl | rfl | rfl | rfl <;> rfl
theorem below_size {B : Nat} {w w' : World} (h : Below B w w') : w.heap.size ≤ w'.heap.size := h.size

set_option maxRecDepth 20000 in
set_option maxHeartbeats 1000000 in
theorem rlaymany_any (a : Option Addr) (n c : Nat) (A : Nat → Option Addr) (L C : Nat → Nat) (f : Nat → Nat → Int) (w : World) (h : Parts w a n A L C f) (ht : 4 * n + sumL L n < 4294967296) :
    Calls Try.prog 21 #[.slice a n c] w fun e w' => ∃ v, e = .returned v ∧ w'.ownsRow w.heap.size 5 1 v (4 * n + sumL L n) (iv (layM f L n)) ∧ Below w.heap.size w w' := by
  have H : Hid (∀ W, Below w.heap.size w W → Parts W a n A L C f) := fun W hW => h.below hW
  have n1 : (n : Int) < 1073741824 := by omega
  have n0 : (0 : Int) ≤ (n : Int) := by omega
  obtain ⟨T, eT⟩ : ∃ T, 4 * n + sumL L n = T := ⟨_, rfl⟩
  rw [eT] at ht ⊢
  have ET := hid eT
  clear h eT
  go_enter Try.func21, Try.ntmps21
  go_wp2
  go_loopw [3, 4, 5] (fun v o i wr => ∃ k : Nat, k ≤ n ∧ i = .int .i64 k ∧ o = .int .i64 ((4 * n + sumL L k : Nat) : Int) ∧ wr.ownsRow w.heap.size 5 1 v (4 * k) (iv (offs L (4 * n) k)) ∧ Below w.heap.size w wr) (fun _ _ i _ => n - (intOf i).toNat)
  case atStart => exact ⟨0, by omega, rfl, by simp [sumL], World.ownsRow_nil _ _ _ _, Below.refl _ _⟩
  case round =>
    obtain ⟨k, hk, rfl, rfl, hown, hb⟩ := hrel
    by_cases hkn : k < n
    · have hsu : sumL L (k + 1) = sumL L k + L k := rfl
      have hmo := sumL_mono L (i := k + 1) (j := n) (by omega)
      have eT := ET.out
      obtain ⟨O, eO⟩ : ∃ O, 4 * n + sumL L k = O := ⟨_, rfl⟩
      have hz := hb.size
      have eo : offs L (4 * n) k ++ fourL O = offs L (4 * n) (k + 1) := by show _ = offs L (4 * n) k ++ fourL (4 * n + sumL L k); rw [eO]
      have HF := hid (rfour_any O wr (by omega))
      have HY := hid (row4_bys wr O)
      have ha : Below wr.heap.size wr (wr.alloc (.cells #[.int .u8 (bt O 0), .int .u8 (bt O 1), .int .u8 (bt O 2), .int .u8 (bt O 3)] 5)) := (Below.refl _ _).alloc (Nat.le_refl _) _
      have HO := hid (owns_below hown ha)
      have HB := hid (hb.alloc hz (.cells #[.int .u8 (bt O 0), .int .u8 (bt O 1), .int .u8 (bt O 2), .int .u8 (bt O 3)] 5))
      have HP : Hid (∀ W, Below w.heap.size w W → ∃ b1 o1, a = some ⟨b1, o1, none⟩ ∧ W.cell? ⟨b1, o1 + k, none⟩ = some (.slice (A k) (L k) (C k))) := by
        intro W hW
        obtain ⟨b1, o1, e1, _, c1, _⟩ := parts_at (H.out _ hW) k hkn
        exact ⟨b1, o1, e1, c1⟩
      obtain ⟨l, el⟩ : ∃ l, L k = l := ⟨_, rfl⟩
      rw [el] at hsu
      rw [eO]
      have k1 : (k : Int) < (n : Int) := by omega
      have k2 : (0 : Int) ≤ (k : Int) := by omega
      have t1 : (O : Int) < 4294967296 := by omega
      have t2 : (0 : Int) ≤ (O : Int) := by omega
      have l1 : (l : Int) < 4294967296 := by omega
      have l2 : (0 : Int) ≤ (l : Int) := by omega
      have E : Hid (4 * n + sumL L (k + 1) = O + l) := by show 4 * n + sumL L (k + 1) = O + l; omega
      have EO := hid eo
      have EL := hid el
      clear hsu hmo eT eO el eo hown hb ha
      go_wp2_with (first
        | (go_at_call 35; refine HF.out.mono ?_; rintro e w3 ⟨rfl, hw3⟩; subst hw3)
        | (at_builtin; refine wpList_append_bys _ rfl _ _ rfl w.heap.size u3 (4 * k) _ rfl HO.out (some ⟨wr.heap.size, 0, none⟩) 4 4 (fun j => bt O j) rfl HY.out (by omega) (by simp; omega) ?_; intro v3 w4 ho3 hg3; have HB3 := hid (below_grown HB.out HO.out (by simp; omega) hg3); rw [bl_four, ← iv_append, EO.out] at ho3; have HO3 := hid ho3; obtain ⟨b1, o1, rfl, c1⟩ := HP.out _ HB3.out; rw [EL.out] at c1; clear ho3 hg3))
      go_roundw
      case rel => exact ⟨k + 1, by omega, by go_num, by rw [E.out]; go_num, HO3.out, HB3.out⟩
      case measure => simp [intOf]; omega
    · have ek : k = n := by omega
      subst ek
      have HO := hid hown
      have HB := hid hb
      clear hown hb
      rw [ET.out]
      go_wp2
      go_loopw [3, 6] (fun v i wr' => ∃ j : Nat, j ≤ k ∧ i = .int .i64 j ∧ wr'.ownsRow w.heap.size 5 1 v (4 * k + sumL L j) (iv (offs L (4 * k) k ++ cats f L j)) ∧ Below w.heap.size w wr') (fun _ i _ => k - (intOf i).toNat)
      case atStart => exact ⟨0, by omega, rfl, by simpa [sumL, cats] using HO.out, HB.out⟩
      case round =>
        obtain ⟨j, hj, rfl, hown, hb⟩ := hrel
        by_cases hjn : j < k
        · obtain ⟨b1, o1, rfl, hb1, c1, y1⟩ := parts_at (H.out _ hb) j hjn
          have hsu : sumL L (j + 1) = sumL L j + L j := rfl
          have hmo := sumL_mono L (i := j + 1) (j := k) (by omega)
          have eT := ET.out
          have hz := hb.size
          have hbd : 4 * k + sumL L j + L j ≤ 140737488355328 := by omega
          have k1 : (j : Int) < (k : Int) := by omega
          have k2 : (0 : Int) ≤ (j : Int) := by omega
          have HO := hid hown
          have HB := hid hb
          have HY := hid y1
          clear hsu hmo eT hown hb y1
          go_wp2_with (at_builtin; refine wpList_append_bys _ rfl _ _ rfl w.heap.size _ (4 * k + sumL L j) _ rfl HO.out (A j) (L j) (C j) (f j) rfl HY.out hbd hz ?_; intro v3 w3 ho3 hg3; have HB3 := hid (below_grown HB.out HO.out hz hg3); have HO3 := hid ho3; clear ho3 hg3)
          go_roundw
          case rel =>
            refine ⟨j + 1, by omega, by go_num, ?_, HB3.out⟩
            have := HO3.out
            rw [bl_prt, ← iv_append, List.append_assoc, Nat.add_assoc] at this
            exact this
          case measure => simp [intOf]; omega
        · have ej : j = k := by omega
          subst ej
          have HO := hid hown
          have HB := hid hb
          clear hown hb
          go_wp2
          go_ret
          refine ⟨_, rfl, ?_, HB.out⟩
          rw [← ET.out]
          exact HO.out

end Go.Proofs.Ytppjpodlnelomaa
