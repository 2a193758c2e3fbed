/-
  What BitsCounts answers.
-/
import Derived.Test.YtnokdnjhajhbgaaBtI
namespace Go.Proofs.Ytnokdnjhajhbgaa
open Go.RowKit
set_option linter.unusedVariables false
set_option linter.unusedSimpArgs false

/-- Bits side by side. -/
def cat (f : Nat → Bool) (n : Nat) (g : Nat → Bool) (j : Nat) : Bool := if j < n then f j else g (j - n)
theorem cat_cnt (f g : Nat → Bool) (n m : Nat) : cnt (cat f n g) (n + m) = cnt f n + cnt g m := by
  rw [cnt_add, cnt_congr (f := cat f n g) (g := f) (n := n), cnt_congr (f := fun j => cat f n g (n + j)) (g := g) (n := m)]
  · intro i hi
    unfold cat
    rw [if_neg (by omega), Nat.add_sub_cancel_left]
  · intro i hi
    unfold cat
    rw [if_pos hi]
theorem cat_bbl (f g : Nat → Bool) (n m : Nat) : bbl f n ++ bbl g m = bbl (cat f n g) (n + m) := by
  have h1 : bbl f n = bbl (cat f n g) n := bbl_congr fun i hi => by unfold cat; rw [if_pos hi]
  rw [h1]
  unfold bbl
  rw [List.range_add, List.map_append, List.map_map]
  congr 1
  refine List.map_congr_left fun i _ => ?_
  show Value.bool (g i) = Value.bool (cat f n g (n + i))
  unfold cat
  rw [if_neg (by omega), Nat.add_sub_cancel_left]
theorem cnt_none {f : Nat → Bool} {n : Nat} (m : Nat) (h : ∀ i, n ≤ i → i < n + m → f i = false) : cnt f (n + m) = cnt f n := by
  induction m with
  | zero => rfl
  | succ m ih =>
    show cnt f (n + m) + (if f (n + m) = true then 1 else 0) = _
    rw [h (n + m) (by omega) (by omega), ih fun i h1 h2 => h i h1 (by omega)]
    rfl
theorem cnt_mono (f : Nat → Bool) {n m : Nat} (h : n ≤ m) : cnt f n ≤ cnt f m := by
  obtain ⟨k, rfl⟩ : ∃ k, m = n + k := ⟨m - n, by omega⟩
  rw [cnt_add]
  omega
/-- The bytes of a vector tell as many. -/
theorem cnt_byt (f : Nat → Bool) (n : Nat) : cnt (tb (byt f n)) (8 * ((n + 7) / 8)) = cnt f n := by
  obtain ⟨k, hk⟩ : ∃ k, 8 * ((n + 7) / 8) = n + k := ⟨8 * ((n + 7) / 8) - n, by omega⟩
  rw [hk, cnt_none]
  · exact cnt_congr fun i hi => tb_byt f n i hi
  · intro i h1 h2
    unfold tb
    rw [byt_bit, show 8 * (i / 8) + i % 8 = i by omega]
    simp [show ¬ i < n by omega]
theorem and_num (B r : Nat) (hB : B < 256) : bits .and .u8 ((B : Int) / 2 ^ r) 1 = ((if B.testBit r = true then 1 else 0 : Nat) : Int) := by
  have e : ((B : Int) / 2 ^ r) = ((B / 2 ^ r : Nat) : Int) := by simp
  have hl : B / 2 ^ r < 256 := Nat.lt_of_le_of_lt (Nat.div_le_self _ _) hB
  rw [e, show (1 : Int) = ((1 : Nat) : Int) from rfl, u8_and_nat _ 1 hl (by omega), Nat.and_one_is_mod, Nat.testBit_eq_decide_div_mod_eq]
  by_cases h : B / 2 ^ r % 2 = 1
  · simp [h]
  · have : B / 2 ^ r % 2 = 0 := by omega
    simp [this]

theorem empty_ownsB (w : World) {B : Nat} (h : B ≤ w.heap.size) : (w.alloc (.cells #[] 4)).ownsRow B 4 1 (.slice (some ⟨w.heap.size, 0, none⟩) 0 0) 0 [] :=
  World.ownsRow_made w #[] 0 h (Nat.zero_le _) rfl

set_option maxRecDepth 20000 in
set_option maxHeartbeats 1000000 in
theorem counts_any (f : Nat → Bool) (a : Option Addr) (n c : Nat) (g : Nat → Bool) (b : Option Addr) (m d : Nat) (w : World) (h1 : Bls w a n c f) (h2 : Bls w b m d g) (hn : n ≤ 1048576) (hm : m ≤ 1048576) :
    Calls Try.prog 6 #[.slice a n c, .slice b m d] w fun e w' => e = .returned (.bool true) ∧ Below w.heap.size w w' := by
  have H1 : Hid (∀ W, Below w.heap.size w W → Bls W a n c f) := fun W hW => h1.below hW
  have H2 : Hid (∀ W, Below w.heap.size w W → Bls W b m d g) := fun W hW => h2.below hW
  have hC := cnt_le f n
  have hD := cnt_le g m
  have HCA : Hid (∀ W, Below w.heap.size w W → Calls Try.prog 13 #[.slice a n c] W fun e w' => e = .returned (.int .i64 (cnt f n)) ∧ w' = W) := fun W hW => count_any f a n c W (h1.below hW) (by omega)
  have HCB : Hid (∀ W, Below w.heap.size w W → Calls Try.prog 13 #[.slice b m d] W fun e w' => e = .returned (.int .i64 (cnt g m)) ∧ w' = W) := fun W hW => count_any g b m d W (h2.below hW) (by omega)
  have HCC : Hid (∀ W v B, W.ownsRow B 4 1 v (n + m) (bbl (cat f n g) (n + m)) → Calls Try.prog 13 #[v] W fun e w' => e = .returned (.int .i64 ((cnt f n : Int) + (cnt g m : Int))) ∧ w' = W) := by
    intro W v B ho
    obtain ⟨a', C', rfl, _, _, hbl, _⟩ := owns_bls ho
    have h := count_any (cat f n g) a' (n + m) C' W hbl (by omega)
    rw [cat_cnt] at h
    exact h
  have hcb := cnt_byt f n
  obtain ⟨C, eC⟩ : ∃ C, cnt f n = C := ⟨_, rfl⟩
  obtain ⟨D, eD⟩ : ∃ D, cnt g m = D := ⟨_, rfl⟩
  rw [eC] at hC HCA HCC hcb
  rw [eD] at hD HCB HCC
  have c1 : (C : Int) ≤ (n : Int) := by omega
  have c2 : (n : Int) ≤ 1048576 := by omega
  have c3 : (D : Int) ≤ 1048576 := by omega
  have c4 : (0 : Int) ≤ (C : Int) := by omega
  have c5 : (0 : Int) ≤ (D : Int) := by omega
  have HCN := hid hcb
  clear h1 h2 eC eD hC hD hcb
  go_enter Try.func6, Try.ntmps6
  go_wp2_with (first
    | (go_at_call 7; refine (awake_any _).mono ?_; rintro r w1 ⟨rfl, hb1⟩; have HB1 := hid hb1; clear hb1)
    | (go_at_call 13; have m2 := M2; refine (HCB.out _ HB3.out).mono ?_; rintro r w5 ⟨rfl, rfl⟩)
    | (go_at_call 13; refine (HCC.out _ _ _ HO3.out).mono ?_; rintro r w5 ⟨rfl, rfl⟩; have M2 := True.intro)
    | (go_at_call 13; refine (HCA.out _ HB1.out).mono ?_; rintro r w5 ⟨rfl, rfl⟩)
    | (at_builtin; refine wpList_append_bls _ rfl _ _ rfl w.heap.size v2 n (bbl f n) rfl HO2.out b m d g rfl (H2.out _ HB2.out) (by omega) HB2.out.size ?_; intro v3 w3 ho3 hg3; rw [cat_bbl] at ho3; have HO3 := hid ho3; have HB3 := hid (below_grown HB2.out HO2.out HB2.out.size hg3); clear ho3 hg3)
    | (at_builtin; refine wpList_append_bls _ rfl _ _ rfl w.heap.size _ 0 [] rfl (empty_ownsB _ HB1.out.size) a n c f rfl (H1.out _ (HB1.out.alloc HB1.out.size _)) (by omega) (by have := HB1.out.size; simp; omega) ?_; intro v2 w2 ho2 hg2; have HB2 := hid (below_grown (HB1.out.alloc HB1.out.size _) (empty_ownsB _ HB1.out.size) (by have := HB1.out.size; simp; omega) hg2); rw [Nat.zero_add, List.nil_append] at ho2; have HO2 := hid ho2; clear ho2 hg2)
    | (go_at_call 8; refine (vector_any f a n c _ (H1.out _ HB3.out) (by omega)).mono ?_; rintro r w6 ⟨rfl, x1, x2, x3⟩; have X1 := hid x1; have HB6 := hid (HB3.out.trans (x2.mono HB3.out.size)); have HZ6 := hid x3; clear x1 x2 x3))
  obtain ⟨z, ez⟩ : ∃ z, w5.heap.size = z := ⟨_, rfl⟩
  obtain ⟨N, eN⟩ : ∃ N, (n + 7) / 8 = N := ⟨_, rfl⟩
  rw [ez, eN] at X1
  rw [ez, eN]
  rw [eN] at HCN
  have HB := HB6
  have EN := hid eN
  have nb : (N : Int) ≤ 131072 := by omega
  have eN' : ((n : Int) + 7) / 8 = (N : Int) := by omega
  clear HCA HCB HCC HO2 HO3 HB1 HB2 HB3 HB6 HZ6 ez eN H1 H2
  go_loopw [5, 7] (fun t v wr => ∃ i : Nat, i ≤ N ∧ v = .int .i64 i ∧ t = .int .i64 ((C : Int) - (cnt (tb (byt f n)) (8 * i) : Int)) ∧ wr = w6) (fun _ v _ => N - (intOf v).toNat)
  case atStart => exact ⟨0, by omega, rfl, by simp [cnt], rfl⟩
  case round =>
    obtain ⟨i, hi, rfl, rfl, rfl⟩ := hrel
    by_cases hiN : i < N
    · have ci := row_int X1.out i hiN
      have hB := byt_lt f n i
      obtain ⟨B, eB⟩ : ∃ B, byt f n i = B := ⟨_, rfl⟩
      rw [eB] at ci hB
      have i1 : (i : Int) < (N : Int) := by omega
      have i2 : (0 : Int) ≤ (i : Int) := by omega
      have EB := hid eB
      clear eB
      go_wp2
      go_loopw [5, 8] (fun t v wr' => ∃ k : Nat, k ≤ 8 ∧ v = .int .i64 k ∧ t = .int .i64 ((C : Int) - (cnt (tb (byt f n)) (8 * i + k) : Int)) ∧ wr' = wr) (fun _ v _ => 8 - (intOf v).toNat)
      case atStart => exact ⟨0, by omega, rfl, rfl, rfl⟩
      case round =>
        obtain ⟨k, hk, rfl, rfl, rfl⟩ := hrel
        have hT := cnt_le (tb (byt f n)) (8 * i + k)
        by_cases hk8 : k < 8
        · have hX := and_num B k hB
          have E : Hid (cnt (tb (byt f n)) (8 * i + k + 1) = cnt (tb (byt f n)) (8 * i + k) + (if B.testBit k = true then 1 else 0)) := by
            show cnt (tb (byt f n)) (8 * i + k) + (if tb (byt f n) (8 * i + k) = true then 1 else 0) = _
            unfold tb
            rw [show (8 * i + k) / 8 = i by omega, show (8 * i + k) % 8 = k by omega, EB.out]
          obtain ⟨X, eX⟩ : ∃ X, (if B.testBit k = true then 1 else 0) = X := ⟨_, rfl⟩
          have x1 : X ≤ 1 := by rw [← eX]; split <;> omega
          rw [eX] at hX E
          obtain ⟨T, eT⟩ : ∃ T, cnt (tb (byt f n)) (8 * i + k) = T := ⟨_, rfl⟩
          rw [eT] at hT E ⊢
          have k1 : (k : Int) < 8 := by omega
          have k2 : (0 : Int) ≤ (k : Int) := by omega
          have t1 : (T : Int) ≤ 1048592 := by omega
          have t2 : (0 : Int) ≤ (T : Int) := by omega
          have x2 : (X : Int) ≤ 1 := by omega
          have x3 : (0 : Int) ≤ (X : Int) := by omega
          have b1 : (B : Int) < 256 := by omega
          have b2 : (0 : Int) ≤ (B : Int) := by omega
          clear eX eT hT x1 hB
          go_wp2
          go_roundw
          case rel =>
            refine ⟨k + 1, by omega, by go_num, ?_, trivial⟩
            rw [show 8 * i + (k + 1) = 8 * i + k + 1 by omega, E.out]
            congr 1
            omega
          case measure => simp [intOf]; omega
        · have ek : k = 8 := by omega
          subst ek
          go_wp2
          go_roundw
          case rel => exact ⟨i + 1, by omega, by go_num, by rw [show 8 * (i + 1) = 8 * i + 8 by omega], trivial⟩
          case measure => simp [intOf]; omega
    · have ei : i = N := by omega
      subst ei
      rw [HCN.out, Int.sub_self]
      go_wp2
      go_ret
      exact ⟨rfl, HB.out⟩

end Go.Proofs.Ytnokdnjhajhbgaa
