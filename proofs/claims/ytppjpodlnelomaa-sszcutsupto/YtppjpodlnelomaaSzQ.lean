/-
  What the reference's sizesOK and Head answer.
-/
import Derived.Test.YtppjpodlnelomaaSzP
namespace Go.Proofs.Ytppjpodlnelomaa
open Go.RowKit
set_option linter.unusedVariables false
set_option linter.unusedSimpArgs false

set_option maxHeartbeats 400000 in
theorem rsizes_any (zs : Nat → Int) (a : Option Addr) (n cap : Nat) (w : World) (hn : Nms .i64 w a n zs) (hnb : n ≤ 9223372036854775807) :
    Calls Try.prog 29 #[.slice a n cap] w fun e w' => e = .returned (.bool (szB zs n)) ∧ w' = w := by
  by_cases h1 : n < 1
  · have e := szB_false (zs := zs) (n := n) (.inl (by omega))
    have h1' : (n : Int) < 1 := by omega
    have E := hid e
    clear e hn
    go_enter Try.func29, Try.ntmps29
    go_wp2
    go_ret
    exact ⟨E.out ▸ rfl, rfl⟩
  · by_cases h2 : 64 < n
    · have e := szB_false (zs := zs) (n := n) (.inr (.inl h2))
      have h1' : ¬ (n : Int) < 1 := by omega
      have h2' : (64 : Int) < (n : Int) := by omega
      have E := hid e
      clear e hn
      go_enter Try.func29, Try.ntmps29
      go_wp2
      go_ret
      exact ⟨E.out ▸ rfl, rfl⟩
    · have h1' : ¬ (n : Int) < 1 := by omega
      have h2' : ¬ (64 : Int) < (n : Int) := by omega
      rcases hn with h | ⟨b, off, rfl, hb, hc⟩
      · omega
      have HC := hid hc
      clear hc
      go_enter Try.func29, Try.ntmps29
      go_wp2
      go_loopw [3] (fun v wr => ∃ k : Nat, k ≤ n ∧ v = .int .i64 k ∧ wr = w ∧ ∀ i, i < k → okS (zs i)) (fun v _ => n - (intOf v).toNat)
      case atStart => exact ⟨0, by omega, rfl, rfl, fun i hi => by omega⟩
      case round =>
        obtain ⟨k, hk, rfl, rfl, hok⟩ := hrel
        by_cases hkn : k < n
        · have ck := HC.out k hkn
          obtain ⟨z, hz⟩ : ∃ z, zs k = z := ⟨_, rfl⟩
          rw [hz] at ck
          have k1 : (k : Int) < (n : Int) := by omega
          have k2 : (0 : Int) ≤ (k : Int) := by omega
          have HOK := hid hok
          have HZ := hid hz
          clear hok hz
          by_cases hlo : z < 0
          · have e := szB_false (zs := zs) (n := n) (.inr (.inr ⟨k, hkn, by rw [HZ.out]; unfold okS; omega⟩))
            have E := hid e
            clear e
            go_wp2
            go_ret
            exact ⟨E.out ▸ rfl, rfl⟩
          · by_cases hhi : 65536 < z
            · have e := szB_false (zs := zs) (n := n) (.inr (.inr ⟨k, hkn, by rw [HZ.out]; unfold okS; omega⟩))
              have E := hid e
              clear e
              go_wp2
              go_ret
              exact ⟨E.out ▸ rfl, rfl⟩
            · have hlo' : 0 ≤ z := by omega
              have hhi' : z ≤ 65536 := by omega
              go_wp2
              go_roundw
              case rel =>
                refine ⟨k + 1, by omega, by go_num, trivial, fun i hi => ?_⟩
                by_cases hik : i = k
                · subst hik; rw [HZ.out]; exact ⟨hlo', hhi'⟩
                · exact HOK.out i (by omega)
              case measure => simp [intOf]; omega
        · have ek : k = n := by omega
          subst ek
          have e := szB_true (zs := zs) (n := k) (by omega) (by omega) hok
          have E := hid e
          clear e hok
          go_wp2
          go_ret
          exact ⟨E.out ▸ rfl, rfl⟩


set_option maxHeartbeats 400000 in
theorem rhead_any (zs : Nat → Int) (a : Option Addr) (n cap : Nat) (w : World) (hn : Nms .i64 w a n zs) (hn1 : 1 ≤ n) (hnb : n ≤ 64) (hok : ∀ i, i < n → okS (zs i)) :
    Calls Try.prog 30 #[.slice a n cap] w fun e w' => e = .returned (.int .i64 (hdL zs n)) ∧ w' = w := by
  rcases hn with h | ⟨b, off, rfl, hb, hc⟩
  · omega
  have HC := hid hc
  have HOK := hid hok
  clear hc hok
  go_enter Try.func30, Try.ntmps30
  go_wp2
  go_loopw [3, 4] (fun s v wr => ∃ k : Nat, k ≤ n ∧ v = .int .i64 k ∧ wr = w ∧ s = .int .i64 ((hdL zs k : Nat) : Int)) (fun _ v _ => n - (intOf v).toNat)
  case atStart => exact ⟨0, by omega, rfl, rfl, rfl⟩
  case round =>
    obtain ⟨k, hk, rfl, rfl, rfl⟩ := hrel
    by_cases hkn : k < n
    · have ck := HC.out k hkn
      have hbd := hdL_bd (zs := zs) k (fun i hi => HOK.out i (by omega))
      have hokk := HOK.out k hkn
      have hsu : hdL zs (k + 1) = hdL zs k + inH (zs k) := rfl
      obtain ⟨z, ez⟩ : ∃ z, zs k = z := ⟨_, rfl⟩
      obtain ⟨S, eS⟩ : ∃ S, hdL zs k = S := ⟨_, rfl⟩
      rw [ez] at ck hokk hsu
      rw [eS] at hbd hsu ⊢
      obtain ⟨z1, z2⟩ := hokk
      have k1 : (k : Int) < (n : Int) := by omega
      have k2 : (0 : Int) ≤ (k : Int) := by omega
      have s1 : (S : Int) ≤ 4194304 := by omega
      have HSU := hid hsu
      clear hsu ez eS hbd
      by_cases h0 : z = 0
      · subst h0
        go_wp2
        go_roundw
        case rel =>
          refine ⟨k + 1, by omega, by go_num, trivial, ?_⟩
          rw [HSU.out]
          rfl
        case measure => simp [intOf]; omega
      · go_wp2
        go_roundw
        case rel =>
          refine ⟨k + 1, by omega, by go_num, trivial, ?_⟩
          rw [HSU.out]
          unfold inH
          rw [if_neg h0]
          congr 1
          omega
        case measure => simp [intOf]; omega
    · have ek : k = n := by omega
      subst ek
      go_wp2
      go_ret
      exact ⟨rfl, rfl⟩

end Go.Proofs.Ytppjpodlnelomaa
