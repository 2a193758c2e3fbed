/-
  What ReadList answers; the fixed answers that every statement of layer 4 asks first are right.
-/
import Derived.Test.YtnokdnjhajhbgaaBtF
namespace Go.Proofs.Ytnokdnjhajhbgaa
open Go.RowKit
set_option linter.unusedVariables false
set_option linter.unusedSimpArgs false

/-- How many bits a list's bytes tell; why ReadList answers none (0: it does), and how many it answers. -/
def rlL (m : Nat → Nat) (len : Nat) : Nat := 8 * (len - 1) + (m (len - 1)).log2
def rlE (m : Nat → Nat) (len : Nat) (n : Int) : Int := if n < 0 ∨ 4096 < n then 1 else if len = 0 then 4 else if m (len - 1) = 0 then 5 else if n < rlL m len then 6 else 0
def rlN (m : Nat → Nat) (len : Nat) (n : Int) : Nat := if rlE m len n = 0 then rlL m len else 0
theorem rl_arg {m : Nat → Nat} {len : Nat} {n : Int} (h : n < 0 ∨ 4096 < n) : rlE m len n = 1 ∧ rlN m len n = 0 := by
  have e : rlE m len n = 1 := by unfold rlE; rw [if_pos h]
  exact ⟨e, by unfold rlN; rw [e]; rfl⟩
theorem rl_size {m : Nat → Nat} {len : Nat} {n : Int} (h1 : ¬ (n < 0 ∨ 4096 < n)) (h : len = 0) : rlE m len n = 4 ∧ rlN m len n = 0 := by
  have e : rlE m len n = 4 := by unfold rlE; rw [if_neg h1, if_pos h]
  exact ⟨e, by unfold rlN; rw [e]; rfl⟩
theorem rl_form {m : Nat → Nat} {len : Nat} {n : Int} (h1 : ¬ (n < 0 ∨ 4096 < n)) (h : ¬ len = 0) (hf : m (len - 1) = 0) : rlE m len n = 5 ∧ rlN m len n = 0 := by
  have e : rlE m len n = 5 := by unfold rlE; rw [if_neg h1, if_neg h, if_pos hf]
  exact ⟨e, by unfold rlN; rw [e]; rfl⟩
theorem rl_long {m : Nat → Nat} {len : Nat} {n : Int} (h1 : ¬ (n < 0 ∨ 4096 < n)) (h : ¬ len = 0) (hf : ¬ m (len - 1) = 0) (hl : n < rlL m len) : rlE m len n = 6 ∧ rlN m len n = 0 := by
  have e : rlE m len n = 6 := by unfold rlE; rw [if_neg h1, if_neg h, if_neg hf, if_pos hl]
  exact ⟨e, by unfold rlN; rw [e]; rfl⟩
theorem rl_ok {m : Nat → Nat} {len : Nat} {n : Int} (h1 : ¬ (n < 0 ∨ 4096 < n)) (h : ¬ len = 0) (hf : ¬ m (len - 1) = 0) (hl : ¬ n < rlL m len) : rlE m len n = 0 ∧ rlN m len n = rlL m len := by
  have e : rlE m len n = 0 := by unfold rlE; rw [if_neg h1, if_neg h, if_neg hf, if_neg hl]
  exact ⟨e, by unfold rlN; rw [if_pos e]⟩
theorem log2_lt8 {x : Nat} (h : x < 256) : x.log2 < 8 := by
  by_cases h0 : x = 0
  · subst h0; decide
  · exact (Nat.log2_lt h0).2 h

set_option maxRecDepth 20000 in
set_option maxHeartbeats 400000 in
theorem readl_any (m : Nat → Nat) (a : Option Addr) (len cap : Nat) (n : Int) (w : World) (h : Bys w a len cap (fun q => (m q : Int))) (hm : ∀ q, q < len → m q < 256) (hlen : len ≤ 140737488355328) :
    Calls Try.prog 14 #[.slice a len cap, .int .i64 n] w (Ans m (rlN m len n) (rlE m len n) w) := by
  by_cases h1 : n < 0
  · obtain ⟨e1, e2⟩ := rl_arg (m := m) (len := len) (.inl h1)
    rw [e1, e2]
    clear h hm e1 e2
    go_enter Try.func14, Try.ntmps14
    go_wp2
    go_ret2
    exact ans_none
  by_cases h2 : 4096 < n
  · obtain ⟨e1, e2⟩ := rl_arg (m := m) (len := len) (.inr h2)
    rw [e1, e2]
    clear h hm e1 e2
    go_enter Try.func14, Try.ntmps14
    go_wp2
    go_ret2
    exact ans_none
  have hn : ¬ (n < 0 ∨ 4096 < n) := by omega
  obtain ⟨N, rfl⟩ : ∃ N : Nat, n = (N : Int) := ⟨n.toNat, by omega⟩
  by_cases h3 : len = 0
  · obtain ⟨e1, e2⟩ := rl_size (m := m) hn h3
    rw [e1, e2]
    subst h3
    clear h hm e1 e2 hn
    go_enter Try.func14, Try.ntmps14
    go_wp2
    go_ret2
    exact ans_none
  obtain ⟨b, off, rfl, hbb, ck⟩ := bys_at h (len - 1) (by omega)
  have hmq := hm (len - 1) (by omega)
  obtain ⟨q, eq⟩ : ∃ q, len - 1 = q := ⟨_, rfl⟩
  have hL : rlL m len = 8 * q + (m q).log2 := by unfold rlL; rw [eq]
  rw [eq] at ck hmq
  have e1 : (len : Int) - 1 = (q : Int) := by omega
  have q1 : (q : Int) < (len : Int) := by omega
  have q2 : (0 : Int) ≤ (q : Int) := by omega
  have q3 : (q : Int) ≤ 140737488355328 := by omega
  have l0 : ¬ (len : Int) = 0 := by omega
  have h2' : (N : Int) ≤ 4096 := by omega
  by_cases h4 : m q = 0
  · obtain ⟨e3, e4⟩ := rl_form (m := m) hn h3 (by rw [eq]; exact h4)
    rw [e3, e4]
    rw [h4] at ck
    clear h hm e3 e4 hn hL hmq h3 eq
    go_enter Try.func14, Try.ntmps14
    go_wp2
    go_ret2
    exact ans_none
  have hlog := log2_lt8 hmq
  have hl8 : l8 (m q) = (m q).log2 + 1 := by unfold l8; rw [if_neg h4]
  have HL8 := hid (len8_any (m q) w hmq)
  by_cases h5 : (N : Int) < rlL m len
  · obtain ⟨e3, e4⟩ := rl_long (m := m) hn h3 (by rw [eq]; exact h4) h5
    rw [e3, e4]
    rw [hL] at h5
    rw [hl8] at HL8
    obtain ⟨B, eB⟩ : ∃ B, m q = B := ⟨_, rfl⟩
    rw [eB] at ck h4 h5 HL8 hlog hmq
    obtain ⟨G, eG⟩ : ∃ G, B.log2 = G := ⟨_, rfl⟩
    rw [eG] at h5 HL8 hlog
    have b1 : (B : Int) < 256 := by omega
    have b2 : ¬ (B : Int) = 0 := by omega
    have g1 : (G : Int) < 8 := by omega
    have g2 : (0 : Int) ≤ (G : Int) := by omega
    have h5' : (N : Int) < (q : Int) * 8 + (G : Int) := by omega
    rw [show (((G + 1 : Nat)) : Int) = (G : Int) + 1 by omega] at HL8
    clear h hm e3 e4 hn hL hmq h3 eq hl8 h5 h4 eB eG hlog
    go_enter Try.func14, Try.ntmps14
    go_wp2_with (go_at_call 20; refine HL8.out.mono ?_; rintro e w1 ⟨rfl, rfl⟩)
    go_ret2
    exact ans_none
  · obtain ⟨e3, e4⟩ := rl_ok (m := m) hn h3 (by rw [eq]; exact h4) h5
    rw [e3, e4]
    rw [hL] at h5 ⊢
    rw [hl8] at HL8
    have HRD := hid (read_any m (some ⟨b, off, none⟩) len cap (8 * q + (m q).log2) w h hm (by omega) (by omega) (by omega))
    obtain ⟨B, eB⟩ : ∃ B, m q = B := ⟨_, rfl⟩
    rw [eB] at ck h4 h5 HL8 hlog hmq HRD ⊢
    obtain ⟨G, eG⟩ : ∃ G, B.log2 = G := ⟨_, rfl⟩
    rw [eG] at h5 HL8 hlog HRD ⊢
    have b1 : (B : Int) < 256 := by omega
    have b2 : ¬ (B : Int) = 0 := by omega
    have g1 : (G : Int) < 8 := by omega
    have g2 : (0 : Int) ≤ (G : Int) := by omega
    have h5' : ¬ (N : Int) < (q : Int) * 8 + (G : Int) := by omega
    rw [show (((G + 1 : Nat)) : Int) = (G : Int) + 1 by omega] at HL8
    rw [show (((8 * q + G : Nat)) : Int) = (q : Int) * 8 + (G : Int) by omega] at HRD
    clear h hm e3 e4 hn hL hmq h3 eq hl8 h4 eB eG hlog
    go_enter Try.func14, Try.ntmps14
    go_wp2_with (first
      | (go_at_call 20; refine HL8.out.mono ?_; rintro e w1 ⟨rfl, rfl⟩)
      | (go_at_call 21; refine HRD.out.mono ?_; rintro e w2 ⟨rfl, x1, x2⟩))
    go_ret2
    exact ⟨_, _, rfl, bls_row x1 (by omega), x2⟩

end Go.Proofs.Ytnokdnjhajhbgaa
