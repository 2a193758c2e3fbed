/-
  What Len8, ReadVector and ReadList answer.
-/
import Derived.Test.YtnokdnjhajhbgaaBtE
import Derived.Test.YtnokdnjhajhbgaaShelf
namespace Go.Proofs.Ytnokdnjhajhbgaa
open Go.RowKit
set_option linter.unusedVariables false
set_option linter.unusedSimpArgs false

/-- How many bits a byte has. -/
def l8 (x : Nat) : Nat := if x = 0 then 0 else x.log2 + 1

theorem l8_eq : ∀ n : Fin 256, Lib.bitLen n.val = l8 n.val := by decide +kernel
theorem len8_any (x : Nat) (w : World) (hx : x < 256) :
    Calls Try.prog 20 #[.int .u8 x] w fun e w' => e = .returned (.int .i64 (l8 x)) ∧ w' = w := by
  have h := Try.bits_Len8 x w (by omega) (by omega)
  rw [Int.toNat_natCast, l8_eq ⟨x, hx⟩] at h
  exact h

/-- Is a further bit set? -/
def frB (m : Nat → Nat) (len n : Nat) : Bool := (List.range (8 * len)).any fun i => decide (n ≤ i) && tb m i
theorem frB_true {m : Nat → Nat} {len n i : Nat} (h1 : i < 8 * len) (h2 : n ≤ i) (h3 : tb m i = true) : frB m len n = true := by
  unfold frB
  simp only [List.any_eq_true, List.mem_range, Bool.and_eq_true, decide_eq_true_eq]
  exact ⟨i, h1, h2, h3⟩
theorem frB_false {m : Nat → Nat} {len n : Nat} (h : ∀ i, i < 8 * len → n ≤ i → tb m i = false) : frB m len n = false := by
  cases hb : frB m len n
  · rfl
  · unfold frB at hb
    simp only [List.any_eq_true, List.mem_range, Bool.and_eq_true, decide_eq_true_eq] at hb
    obtain ⟨i, h1, h2, h3⟩ := hb
    rw [h i h1 h2] at h3
    cases h3
theorem frB_out {m : Nat → Nat} {len n : Nat} (hb : frB m len n = false) : ∀ i, i < 8 * len → n ≤ i → tb m i = false := by
  intro i h1 h2
  cases h : tb m i
  · rfl
  · rw [frB_true h1 h2 h] at hb
    cases hb
/-- The last byte tells of further bits. -/
theorem frB_last (m : Nat → Nat) (len n : Nat) (hn : 1 ≤ n) (hlen : len = (n + 7) / 8) (hm : ∀ q, q < len → m q < 256) : frB m len n = (decide (n % 8 ≠ 0) && decide (m (n / 8) / 2 ^ (n % 8) ≠ 0)) := by
  by_cases h8 : n % 8 = 0
  · rw [frB_false (fun i h1 h2 => by omega)]
    simp [h8]
  · have hq : n / 8 < len := by omega
    by_cases hx : m (n / 8) / 2 ^ (n % 8) = 0
    · rw [frB_false]
      · simp [hx]
      · intro i h1 h2
        unfold tb
        have e : i / 8 = n / 8 := by omega
        rw [e]
        apply Nat.testBit_lt_two_pow
        have hlt : m (n / 8) < 2 ^ (n % 8) := by
          rcases Nat.div_eq_zero_iff.1 hx with h | h
          · have := Nat.two_pow_pos (n % 8); omega
          · exact h
        exact Nat.lt_of_lt_of_le hlt (Nat.pow_le_pow_right (by omega) (by omega))
    · obtain ⟨i, h2⟩ : ∃ i, (m (n / 8) / 2 ^ (n % 8)).testBit i = true := Nat.exists_testBit_of_ne_zero hx
      rw [Nat.testBit_div_two_pow] at h2
      have hi : n % 8 + i < 8 := by
        by_cases h : n % 8 + i < 8
        · exact h
        · rw [Nat.testBit_lt_two_pow (Nat.lt_of_lt_of_le (hm _ hq) (Nat.pow_le_pow_right (n := 2) (by omega) (by omega : 8 ≤ _)))] at h2
          cases h2
      rw [frB_true (i := n + i) (by omega) (by omega)]
      · simp [h8, hx]
      · unfold tb
        rw [show (n + i) / 8 = n / 8 by omega, show (n + i) % 8 = n % 8 + i by omega, Nat.add_comm]
        exact h2

/-- Why ReadVector answers no bits (0: it does), and how many it answers. -/
def rvE (m : Nat → Nat) (len : Nat) (n : Int) : Int := if n < 1 ∨ 4096 < n then 1 else if len ≠ (n.toNat + 7) / 8 then 4 else if frB m len n.toNat = true then 5 else 0
def rvN (m : Nat → Nat) (len : Nat) (n : Int) : Nat := if rvE m len n = 0 then n.toNat else 0
theorem rv_arg {m : Nat → Nat} {len : Nat} {n : Int} (h : n < 1 ∨ 4096 < n) : rvE m len n = 1 ∧ rvN m len n = 0 := by
  have e : rvE m len n = 1 := by unfold rvE; rw [if_pos h]
  exact ⟨e, by unfold rvN; rw [e]; rfl⟩
theorem rv_size {m : Nat → Nat} {len : Nat} {n : Int} (h1 : 1 ≤ n) (h2 : n ≤ 4096) (h : len ≠ (n.toNat + 7) / 8) : rvE m len n = 4 ∧ rvN m len n = 0 := by
  have e : rvE m len n = 4 := by unfold rvE; rw [if_neg (by omega), if_pos h]
  exact ⟨e, by unfold rvN; rw [e]; rfl⟩
theorem rv_form {m : Nat → Nat} {len : Nat} {n : Int} (h1 : 1 ≤ n) (h2 : n ≤ 4096) (h : len = (n.toNat + 7) / 8) (hf : frB m len n.toNat = true) : rvE m len n = 5 ∧ rvN m len n = 0 := by
  have e : rvE m len n = 5 := by unfold rvE; rw [if_neg (by omega), if_neg (by omega), if_pos hf]
  exact ⟨e, by unfold rvN; rw [e]; rfl⟩
theorem rv_ok {m : Nat → Nat} {len : Nat} {n : Int} (h1 : 1 ≤ n) (h2 : n ≤ 4096) (h : len = (n.toNat + 7) / 8) (hf : frB m len n.toNat = false) : rvE m len n = 0 ∧ rvN m len n = n.toNat := by
  have e : rvE m len n = 0 := by unfold rvE; rw [if_neg (by omega), if_neg (by omega), if_neg (by rw [hf]; simp)]
  exact ⟨e, by unfold rvN; rw [if_pos e]⟩

/-- The answer: bits or none, and an error. -/
def Ans (m : Nat → Nat) (N : Nat) (E : Int) (w : World) (e : Ending) (w' : World) : Prop :=
  ∃ a c, e = .returned (.tuple #[.slice a N c, .int .i64 E]) ∧ Bls w' a N c (tb m) ∧ Below w.heap.size w w'
theorem ans_none {m : Nat → Nat} {E : Int} {w : World} : Ans m 0 E w (.returned (.tuple #[.slice none 0 0, .int .i64 E])) w := ⟨none, 0, rfl, .inl ⟨rfl, rfl, rfl⟩, Below.refl _ _⟩

set_option maxRecDepth 20000 in
set_option maxHeartbeats 400000 in
theorem readv_any (m : Nat → Nat) (a : Option Addr) (len cap : Nat) (n : Int) (w : World) (h : Bys w a len cap (fun q => (m q : Int))) (hm : ∀ q, q < len → m q < 256) (hlen : len ≤ 9223372036854775807) :
    Calls Try.prog 15 #[.slice a len cap, .int .i64 n] w (Ans m (rvN m len n) (rvE m len n) w) := by
  by_cases h1 : n < 1
  · obtain ⟨e1, e2⟩ := rv_arg (m := m) (len := len) (.inl h1)
    rw [e1, e2]
    clear h hm e1 e2
    go_enter Try.func15, Try.ntmps15
    go_wp2
    go_ret2
    exact ans_none
  by_cases h2 : 4096 < n
  · obtain ⟨e1, e2⟩ := rv_arg (m := m) (len := len) (.inr h2)
    rw [e1, e2]
    clear h hm e1 e2
    go_enter Try.func15, Try.ntmps15
    go_wp2
    go_ret2
    exact ans_none
  obtain ⟨N, rfl⟩ : ∃ N : Nat, n = (N : Int) := ⟨n.toNat, by omega⟩
  have HV := hid (vbytes_any N w (by omega))
  by_cases h3 : len = (N + 7) / 8
  · have hf := frB_last m len N (by omega) h3 hm
    have HRD := hid (read_any m a len cap N w h hm (by omega) (by omega) hlen)
    by_cases h8 : (N : Int) % 8 = 0
    · obtain ⟨e1, e2⟩ := rv_ok (m := m) (len := len) (n := (N : Int)) (by omega) (by omega) h3 (by rw [Int.toNat_natCast, hf, decide_eq_false (by omega)]; rfl)
      rw [e1, e2, Int.toNat_natCast]
      have h3' : (len : Int) = (((N + 7) / 8 : Nat) : Int) := by omega
      have h2' : (N : Int) ≤ 4096 := by omega
      rw [← h3] at HV
      clear h hm e1 e2 hf h3 h3'
      go_enter Try.func15, Try.ntmps15
      go_wp2_with (first
        | (go_at_call 18; refine HV.out.mono ?_; rintro e w1 ⟨rfl, rfl⟩)
        | (go_at_call 21; refine HRD.out.mono ?_; rintro e w2 ⟨rfl, x1, x2⟩))
      go_ret2
      exact ⟨_, N, rfl, bls_row x1 (by omega), x2⟩
    · obtain ⟨b, off, rfl, hbb, ck⟩ := bys_at h (N / 8) (by omega)
      have hmq := hm (N / 8) (by omega)
      obtain ⟨q, eq⟩ : ∃ q, N / 8 = q := ⟨_, rfl⟩
      obtain ⟨r, er⟩ : ∃ r, N % 8 = r := ⟨_, rfl⟩
      rw [eq] at ck hmq
      obtain ⟨B, eB⟩ : ∃ B, m q = B := ⟨_, rfl⟩
      rw [eB] at ck hmq
      rw [eq, er, eB] at hf
      have e1 : (N : Int) / 8 = (q : Int) := by omega
      have e2 : (N : Int) % 8 = (r : Int) := by omega
      have q1 : (q : Int) < (len : Int) := by omega
      have q2 : (0 : Int) ≤ (q : Int) := by omega
      have r1 : (r : Int) < 8 := by omega
      have r2 : (0 : Int) ≤ (r : Int) := by omega
      have h8' : ¬ (r : Int) = 0 := by omega
      have b1 : (B : Int) < 256 := by omega
      have b2 : (0 : Int) ≤ (B : Int) := by omega
      have h2' : (N : Int) ≤ 4096 := by omega
      have ediv : ((B : Int) / 2 ^ r) = ((B / 2 ^ r : Nat) : Int) := by simp
      rw [← h3] at HV
      by_cases hB : B / 2 ^ r = 0
      · obtain ⟨e3, e4⟩ := rv_ok (m := m) (len := len) (n := (N : Int)) (by omega) (by omega) h3 (by rw [Int.toNat_natCast, hf, hB]; simp)
        rw [e3, e4, Int.toNat_natCast]
        have hB' : (B : Int) / 2 ^ r = 0 := by rw [ediv, hB]; rfl
        clear h hm e3 e4 hf h3 h8 eq er eB hmq hB ediv
        go_enter Try.func15, Try.ntmps15
        go_wp2_with (first
          | (go_at_call 18; refine HV.out.mono ?_; rintro e w1 ⟨rfl, rfl⟩)
          | (go_at_call 21; refine HRD.out.mono ?_; rintro e w2 ⟨rfl, x1, x2⟩))
        go_ret2
        exact ⟨_, N, rfl, bls_row x1 (by omega), x2⟩
      · obtain ⟨e3, e4⟩ := rv_form (m := m) (len := len) (n := (N : Int)) (by omega) (by omega) h3 (by rw [Int.toNat_natCast, hf]; simp [hB]; omega)
        rw [e3, e4]
        have hB' : ¬ (B : Int) / 2 ^ r = 0 := by rw [ediv]; omega
        have t1 : ((r : Int) != 0) = true := by simpa using h8'
        have t2 : ((B : Int) / 2 ^ r != 0) = true := by simpa using hB'
        clear h hm e3 e4 hf h3 h8 eq er eB hmq hB ediv
        go_enter Try.func15, Try.ntmps15
        go_wp2_with (go_at_call 18; refine HV.out.mono ?_; rintro e w1 ⟨rfl, rfl⟩)
        go_ret2
        exact ans_none
  · obtain ⟨e1, e2⟩ := rv_size (m := m) (len := len) (n := (N : Int)) (by omega) (by omega) (by simpa using h3)
    rw [e1, e2]
    obtain ⟨V, eV⟩ : ∃ V, (N + 7) / 8 = V := ⟨_, rfl⟩
    rw [eV] at HV h3
    have h3' : ¬ (len : Int) = (V : Int) := by omega
    clear h hm e1 e2 h3 eV
    go_enter Try.func15, Try.ntmps15
    go_wp2_with (go_at_call 18; refine HV.out.mono ?_; rintro e w1 ⟨rfl, rfl⟩)
    go_ret2
    exact ans_none

end Go.Proofs.Ytnokdnjhajhbgaa
