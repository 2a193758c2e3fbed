/-
  What the reference's all, ReadVector and ReadList answer.
-/
import Derived.Test.YtnokdnjhajhbgaaBtK
namespace Go.Proofs.Ytnokdnjhajhbgaa
open Go.RowKit
set_option linter.unusedVariables false
set_option linter.unusedSimpArgs false

set_option maxHeartbeats 400000 in
theorem all_any (m : Nat → Nat) (a : Option Addr) (len cap : Nat) (w : World) (h : Bys w a len cap (fun q => (m q : Int))) (hm : ∀ q, q < len → m q < 256) (hlen : len ≤ 1048576) :
    Calls Try.prog 22 #[.slice a len cap] w fun e w' => ∃ v, e = .returned v ∧ w'.ownsRow w.heap.size 4 1 v (8 * len) (bbl (tb m) (8 * len)) ∧ Below w.heap.size w w' := by
  have H := hid h
  have HM := hid hm
  have l1 : (len : Int) ≤ 1048576 := by omega
  have l0 : (0 : Int) ≤ (len : Int) := by omega
  clear h hm
  go_enter Try.func22, Try.ntmps22
  go_wp2
  go_loopw [3, 4] (fun v i wr => ∃ k : Nat, k ≤ 8 * len ∧ i = .int .i64 k ∧ wr.ownsRow w.heap.size 4 1 v k (bbl (tb m) k) ∧ Below w.heap.size w wr) (fun _ i _ => 8 * len - (intOf i).toNat)
  case atStart => exact ⟨0, by omega, rfl, World.ownsRow_nil _ _ _ _, Below.refl _ _⟩
  case round =>
    obtain ⟨k, hk, rfl, hown, hb⟩ := hrel
    by_cases hkn : k < 8 * len
    · obtain ⟨b, off, rfl, hbb, ck0⟩ := bys_at H.out (k / 8) (by omega)
      have ck := (below_cell hb hbb).trans ck0
      have hmq := HM.out (k / 8) (by omega)
      obtain ⟨q, eq⟩ : ∃ q, k / 8 = q := ⟨_, rfl⟩
      obtain ⟨r, er⟩ : ∃ r, k % 8 = r := ⟨_, rfl⟩
      rw [eq] at ck hmq
      obtain ⟨B, eB⟩ : ∃ B, m q = B := ⟨_, rfl⟩
      rw [eB] at ck hmq
      have e1 : (k : Int) / 8 = (q : Int) := by omega
      have e2 : (k : Int) % 8 = (r : Int) := by omega
      have q1 : (q : Int) < (len : Int) := by omega
      have q2 : (0 : Int) ≤ (q : Int) := by omega
      have r1 : (r : Int) < 8 := by omega
      have r2 : (0 : Int) ≤ (r : Int) := by omega
      have k1 : (k : Int) < 8 * (len : Int) := by omega
      have k2 : (0 : Int) ≤ (k : Int) := by omega
      have b1 : (B : Int) < 256 := by omega
      have b2 : (0 : Int) ≤ (B : Int) := by omega
      have hbit := and_bit B r (by omega)
      have HT : Hid (B.testBit r = tb m k) := by
        show B.testBit r = (m (k / 8)).testBit (k % 8)
        rw [eq, er, eB]
      have HO := hid hown
      have HB := hid hb
      have hz := hb.size
      clear hown hb ck0 eq er eB hmq
      go_wp2_with (at_builtin; refine wpList_append_bit wr rfl _ _ rfl w.heap.size u3 k (tb m) (B.testBit r) rfl HO.out rfl HT.out (by omega) hz ?_; intro g C w2 ho2 hg2; have HB2 := hid (below_grown HB.out HO.out hz hg2); have HO2 := hid ho2; clear ho2 hg2)
      go_roundw
      case rel => exact ⟨k + 1, by omega, by go_num, HO2.out, HB2.out⟩
      case measure => simp [intOf]; omega
    · have ek : k = 8 * len := by omega
      subst ek
      have HO := hid hown
      have HB := hid hb
      clear hown hb
      go_wp2
      go_ret
      exact ⟨_, rfl, HO.out, HB.out⟩

theorem bls_cut {w : World} {a : Option Addr} {n N C : Nat} {f : Nat → Bool} (h : Bls w a N C f) (hn : n ≤ N) : Bls w a n C f := by
  rcases h with ⟨h1, h2, h3⟩ | ⟨x, h1, h2⟩ | ⟨b, off, h1, h2, h3, h4, h5⟩
  · exact .inl ⟨h1, by omega, h3⟩
  · exact .inr (.inl ⟨x, h1, by omega⟩)
  · exact .inr (.inr ⟨b, off, h1, by omega, h3, h4, fun j hj => h5 j (by omega)⟩)

attribute [local go_sem ↓] slB_eq

set_option maxRecDepth 20000 in
set_option maxHeartbeats 400000 in
theorem rreadv_any (m : Nat → Nat) (a : Option Addr) (len cap : Nat) (n : Int) (w : World) (h : Bys w a len cap (fun q => (m q : Int))) (hm : ∀ q, q < len → m q < 256) (hlen : len ≤ 1048576) :
    Calls Try.prog 16 #[.slice a len cap, .int .i64 n] w (Ans m (rvN m len n) (rvE m len n) w) := by
  by_cases h1 : n < 1
  · obtain ⟨e1, e2⟩ := rv_arg (m := m) (len := len) (.inl h1)
    rw [e1, e2]
    clear h hm e1 e2
    go_enter Try.func16, Try.ntmps16
    go_wp2
    go_ret2
    exact ans_none
  by_cases h2 : 4096 < n
  · obtain ⟨e1, e2⟩ := rv_arg (m := m) (len := len) (.inr h2)
    rw [e1, e2]
    clear h hm e1 e2
    go_enter Try.func16, Try.ntmps16
    go_wp2
    go_ret2
    exact ans_none
  obtain ⟨N, rfl⟩ : ∃ N : Nat, n = (N : Int) := ⟨n.toNat, by omega⟩
  obtain ⟨V, eV⟩ : ∃ V, (N + 7) / 8 = V := ⟨_, rfl⟩
  have eV' : ((N : Int) + 7) / 8 = (V : Int) := by omega
  have n2 : (N : Int) ≤ 4096 := by omega
  have n1 : (1 : Int) ≤ (N : Int) := by omega
  by_cases h3 : len = V
  · have HA := hid (all_any m a len cap w h hm hlen)
    have h3' : (len : Int) = (V : Int) := by omega
    have hN8 : N ≤ 8 * len := by omega
    have ERR : Hid (∀ i, N ≤ i → i < 8 * len → tb m i = true → rvE m len (N : Int) = 5 ∧ rvN m len (N : Int) = 0) := fun i h1 h2 ht =>
      rv_form (m := m) (by omega) (by omega) (by rw [Int.toNat_natCast, eV]; exact h3) (by rw [Int.toNat_natCast]; exact frB_true h2 h1 ht)
    have OKK : Hid ((∀ i, N ≤ i → i < 8 * len → tb m i = false) → rvE m len (N : Int) = 0 ∧ rvN m len (N : Int) = N) := fun hf => by
      have := rv_ok (m := m) (len := len) (n := (N : Int)) (by omega) (by omega) (by rw [Int.toNat_natCast, eV]; exact h3) (by rw [Int.toNat_natCast]; exact frB_false fun i h1 h2 => hf i h2 h1)
      rw [Int.toNat_natCast] at this
      exact this
    subst h3
    clear h hm eV h1 h2
    go_enter Try.func16, Try.ntmps16
    go_wp2_with (go_at_call 22; refine HA.out.mono ?_; rintro e w1 ⟨v, rfl, ho, hb⟩; obtain ⟨a1, C1, rfl, hC1, hC2, hbl, hbase⟩ := owns_bls ho; have HBL := hid hbl; have HB := hid hb; clear ho hb hbl hbase)
    go_loopw [7] (fun i wr => ∃ k : Nat, N ≤ k ∧ k ≤ 8 * len ∧ i = .int .i64 k ∧ wr = w1 ∧ ∀ i, N ≤ i → i < k → tb m i = false) (fun i _ => 8 * len - (intOf i).toNat)
    case atStart => exact ⟨N, Nat.le_refl _, hN8, rfl, rfl, fun i h1 h2 => by omega⟩
    case round =>
      obtain ⟨k, hNk, hk, rfl, rfl, hf⟩ := hrel
      by_cases hkn : k < 8 * len
      · obtain ⟨b, off, rfl, hbb, ck⟩ := bls_at HBL.out k hkn
        obtain ⟨x, ex⟩ : ∃ x, tb m k = x := ⟨_, rfl⟩
        rw [ex] at ck
        have k1 : (k : Int) < ((8 * len : Nat) : Int) := by omega
        have k2 : (0 : Int) ≤ (k : Int) := by omega
        have EX := hid ex
        have HF := hid hf
        clear ex hf
        cases x
        · go_wp2
          go_roundw
          case rel =>
            refine ⟨k + 1, by omega, by omega, by go_num, trivial, fun i h1 h2 => ?_⟩
            by_cases e : i = k
            · subst e; exact EX.out
            · exact HF.out i h1 (by omega)
          case measure => simp [intOf]; omega
        · go_wp2
          go_ret2
          obtain ⟨e1, e2⟩ := ERR.out k hNk hkn EX.out
          show Ans m (rvN m len (N : Int)) (rvE m len (N : Int)) w _ _
          rw [e1, e2]
          exact ⟨none, 0, rfl, .inl ⟨rfl, rfl, rfl⟩, HB.out⟩
      · have ek : k = 8 * len := by omega
        have E := hid (OKK.out (by rw [← ek]; exact hf))
        rw [ek]
        have sl := fun W => slB_run W a1 (8 * len) C1 N (by omega)
        clear hf
        go_wp2
        go_ret2
        show Ans m (rvN m len (N : Int)) (rvE m len (N : Int)) w _ _
        rw [E.out.1, E.out.2]
        exact ⟨a1, C1, rfl, bls_cut HBL.out hN8, HB.out⟩
  · obtain ⟨e1, e2⟩ := rv_size (m := m) (len := len) (n := (N : Int)) (by omega) (by omega) (by rw [Int.toNat_natCast, eV]; exact h3)
    rw [e1, e2]
    have h3' : ¬ (len : Int) = (V : Int) := by omega
    clear h hm e1 e2 h3 eV
    go_enter Try.func16, Try.ntmps16
    go_wp2
    go_ret2
    exact ans_none

end Go.Proofs.Ytnokdnjhajhbgaa
