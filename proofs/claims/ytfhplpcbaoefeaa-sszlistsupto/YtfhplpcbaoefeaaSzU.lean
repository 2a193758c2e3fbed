/-
  What ssz.LayMany and the reference's four and LayMany answer.
-/
import Derived.Test.YtfhplpcbaoefeaaSzT
namespace Go.Proofs.Ytfhplpcbaoefeaa
open Go.RowKit
set_option linter.unusedVariables false
set_option linter.unusedSimpArgs false

/-- The bytes of the part number r; the first k offsets; the first k parts. -/
def prt (f : Nat → Nat → Int) (L : Nat → Nat) (r : Nat) : List Int := (List.range (L r)).map (f r)
theorem prt_len (f : Nat → Nat → Int) (L : Nat → Nat) (r : Nat) : (prt f L r).length = L r := by simp [prt]
theorem bl_prt (f : Nat → Nat → Int) (L : Nat → Nat) (r : Nat) : bl (f r) (L r) = iv (prt f L r) := by simp [bl, iv, prt]
def offs (L : Nat → Nat) (H : Nat) : Nat → List Int
  | 0 => []
  | k + 1 => offs L H k ++ fourL (H + sumL L k)
theorem offs_len (L : Nat → Nat) (H k : Nat) : (offs L H k).length = 4 * k := by
  induction k with
  | zero => rfl
  | succ k ih =>
    unfold offs
    rw [List.length_append, ih]
    simp [fourL]
    omega
def cats (f : Nat → Nat → Int) (L : Nat → Nat) : Nat → List Int
  | 0 => []
  | k + 1 => cats f L k ++ prt f L k
theorem cats_len (f : Nat → Nat → Int) (L : Nat → Nat) (k : Nat) : (cats f L k).length = sumL L k := by
  induction k with
  | zero => rfl
  | succ k ih =>
    unfold cats sumL
    rw [List.length_append, ih, prt_len]
/-- The bytes of a list of parts of any size. -/
def layM (f : Nat → Nat → Int) (L : Nat → Nat) (n : Nat) : List Int := offs L (4 * n) n ++ cats f L n
theorem layM_len (f : Nat → Nat → Int) (L : Nat → Nat) (n : Nat) : (layM f L n).length = 4 * n + sumL L n := by
  unfold layM
  rw [List.length_append, offs_len, cats_len]

set_option maxRecDepth 20000 in
set_option maxHeartbeats 1000000 in
theorem laymany_ok (a : Option Addr) (n c : Nat) (A : Nat → Option Addr) (L C : Nat → Nat) (f : Nat → Nat → Int) (w : World) (h : Parts w a n A L C f) (hL : ∀ r, r < n → L r ≤ 9223372036854775807) (ht : 4 * n + sumL L n < 4294967296) :
    Calls Try.prog 10 #[.slice a n c] w fun e w' => ∃ v, e = .returned (.tuple #[v, .int .i64 0]) ∧ w'.ownsRow w.heap.size 5 1 v (4 * n + sumL L n) (iv (layM f L n)) ∧ Below w.heap.size w w' := by
  have HT := total_any (4 * n) a n c A L C f w h (by omega) (by omega) hL
  rw [totR_ok ht] at HT
  have HTT := hid HT
  have H : Hid (∀ W, Below w.heap.size w W → Parts W a n A L C f) := fun W hW => h.below hW
  have e4 : (n : Int) * 4 = ((4 * n : Nat) : Int) := by omega
  have n1 : (n : Int) < 1073741824 := by omega
  have n0 : (0 : Int) ≤ (n : Int) := by omega
  obtain ⟨T, eT⟩ : ∃ T, 4 * n + sumL L n = T := ⟨_, rfl⟩
  rw [eT] at HTT ht ⊢
  have ET := hid eT
  obtain ⟨i8, hi8, hz0, hz1, hz2⟩ := info_parts info8
  clear h HT eT hL
  go_enter Try.func10, Try.ntmps10
  go_wp2_with (first
    | (go_at_call 21; refine HTT.out.mono ?_; rintro e w1 ⟨rfl, hw1⟩; obtain rfl := hw1.symm)
    | (at_make; refine wpList_make_own _ rfl _ _ 22 rfl w.heap.size 5 i8 (.int .u8 0) 1 Try.underlying22 hi8 hz0 hz1 _ _ _ T rfl rfl rfl (by rw [hz2]; omega) (by unfold maxLen; omega) (Nat.le_refl _) ?_; intro w2 ho2 hg2; have HO2 := hid ho2; have HB2 : Hid (Below w.heap.size w w2) := ⟨hg2.os, hg2.tape, hg2.output, hg2.size, fun k hk => hg2.block k hk (by intro h; cases h)⟩; clear ho2 hg2))
  have hB0 : w.heap.size ≤ w2.heap.size := HB2.out.size
  go_loopw [4, 7, 29] (fun o v i wr => ∃ k : Nat, k ≤ n ∧ i = .int .i64 k ∧ o = .int .u64 ((4 * n + sumL L k : Nat) : Int) ∧ wr.ownsRow w.heap.size 5 1 v (4 * k) (iv (offs L (4 * n) k)) ∧ Below w.heap.size w wr) (fun _ _ i _ => n - (intOf i).toNat)
  case atStart => exact ⟨0, by omega, rfl, by simp [sumL], HO2.out, HB2.out⟩
  case round =>
    obtain ⟨k, hk, rfl, rfl, hown, hb⟩ := hrel
    by_cases hkn : k < n
    · obtain ⟨b1, o1, rfl, hb1, c1, y1⟩ := parts_at (H.out _ hb) k hkn
      have hsu : sumL L (k + 1) = sumL L k + L k := rfl
      have hmo := sumL_mono L (i := k + 1) (j := n) (by omega)
      have eT := ET.out
      obtain ⟨O, eO⟩ : ∃ O, 4 * n + sumL L k = O := ⟨_, rfl⟩
      obtain ⟨l, el⟩ : ∃ l, L k = l := ⟨_, rfl⟩
      have hz := hb.size
      have hap := appendoff_any u7 (4 * k) (offs L (4 * n) k) O w.heap.size wr hown (by omega) (by omega) hz
      have eo : offs L (4 * n) k ++ fourL O = offs L (4 * n) (k + 1) := by show _ = offs L (4 * n) k ++ fourL (4 * n + sumL L k); rw [eO]
      rw [eo] at hap
      have HAP := hid hap
      rw [el] at c1 hsu
      rw [eO]
      have k1 : (k : Int) < (n : Int) := by omega
      have k2 : (0 : Int) ≤ (k : Int) := by omega
      have t1 : (O : Int) < 4294967296 := by omega
      have t2 : (0 : Int) ≤ (O : Int) := by omega
      have l1 : (l : Int) < 4294967296 := by omega
      have l2 : (0 : Int) ≤ (l : Int) := by omega
      have t3 : (O : Int) + (l : Int) < 4294967296 := by omega
      have E : Hid (4 * n + sumL L (k + 1) = O + l) := by show 4 * n + sumL L (k + 1) = O + l; omega
      have HB := hid hb
      clear hsu hmo eT eO el hap eo hown hb y1
      go_wp2_with (go_at_call 22; refine HAP.out.mono ?_; rintro e w3 ⟨v3, rfl, ho3, hb3⟩; have HO3 := hid ho3; have HB3 := hid hb3; clear ho3 hb3)
      go_roundw
      case rel => exact ⟨k + 1, by omega, by go_num, by rw [E.out]; go_num, HO3.out, HB.out.trans HB3.out⟩
      case measure => simp [intOf]; omega
    · have ek : k = n := by omega
      subst ek
      have HO := hid hown
      have HB := hid hb
      clear hown hb HO2 HB2 HTT hB0
      rw [ET.out]
      go_wp2
      go_loopw [7, 44] (fun v i wr' => ∃ j : Nat, j ≤ k ∧ i = .int .i64 j ∧ wr'.ownsRow w.heap.size 5 1 v (4 * k + sumL L j) (iv (offs L (4 * k) k ++ cats f L j)) ∧ Below w.heap.size w wr') (fun _ i _ => k - (intOf i).toNat)
      case atStart => exact ⟨0, by omega, rfl, by simpa [sumL, cats] using HO.out, HB.out⟩
      case round =>
        obtain ⟨j, hj, rfl, hown, hb⟩ := hrel
        by_cases hjn : j < k
        · obtain ⟨b1, o1, rfl, hb1, c1, y1⟩ := parts_at (H.out _ hb) j hjn
          have hsu : sumL L (j + 1) = sumL L j + L j := rfl
          have hmo := sumL_mono L (i := j + 1) (j := k) (by omega)
          have eT := ET.out
          have hz := hb.size
          have hbd : 4 * k + sumL L j + L j ≤ 140737488355328 := by omega
          have k1 : (j : Int) < (k : Int) := by omega
          have k2 : (0 : Int) ≤ (j : Int) := by omega
          have HO := hid hown
          have HB := hid hb
          have HY := hid y1
          clear hsu hmo eT hown hb y1
          go_wp2_with (at_builtin; refine wpList_append_bys _ rfl _ _ rfl w.heap.size _ (4 * k + sumL L j) _ rfl HO.out (A j) (L j) (C j) (f j) rfl HY.out hbd hz ?_; intro v3 w3 ho3 hg3; have HB3 := hid (below_grown HB.out HO.out hz hg3); have HO3 := hid ho3; clear ho3 hg3)
          go_roundw
          case rel =>
            refine ⟨j + 1, by omega, by go_num, ?_, HB3.out⟩
            have := HO3.out
            rw [bl_prt, ← iv_append, List.append_assoc, Nat.add_assoc] at this
            exact this
          case measure => simp [intOf]; omega
        · have ej : j = k := by omega
          subst ej
          have HO := hid hown
          have HB := hid hb
          clear hown hb
          go_wp2
          go_ret2
          refine ⟨_, rfl, ?_, HB.out⟩
          rw [← ET.out]
          exact HO.out

end Go.Proofs.Ytfhplpcbaoefeaa
