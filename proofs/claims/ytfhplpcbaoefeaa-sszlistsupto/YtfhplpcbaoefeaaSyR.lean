/-
  What the reference's Many answers.
-/
import Derived.Test.YtfhplpcbaoefeaaSyQ
namespace Go.Proofs.Ytfhplpcbaoefeaa
open Go.RowKit
set_option linter.unusedVariables false
set_option linter.unusedSimpArgs false

theorem sl_four (b0 off0 len cap : Nat) (h2 : 4 ≤ len) (h3 : len ≤ cap) (W : World) :
    (sl22 (.slice (some ⟨b0, off0, none⟩) len cap) none (some (.int .i64 4))).run Try.prog W = .ok (.slice (some ⟨b0, off0, none⟩) 4 cap) W := by
  have h := sl22_run W (some ⟨b0, off0, none⟩) len cap 0 4 none (some (.int .i64 4)) (.inr ⟨rfl, rfl⟩) (.inl rfl) (by omega) h2 h3
  rw [if_neg (by omega), Option.map_some, addr_add] at h
  exact h

attribute [local go_sem ↓] sl22_eq

set_option maxRecDepth 20000 in
set_option maxHeartbeats 2000000 in
theorem rmany_arg (L : Nat → Nat) (f : Nat → Nat → Int) (ao : Option Addr) (len cap : Nat) (most : Int) (w : World) (h : most < 0) :
    Calls Try.prog 9 #[.slice ao len cap, .int .i64 most] w (LAns 0 1 L f w) := by
  go_enter Try.func9, Try.ntmps9
  go_wp2
  go_ret2
  exact lans_none (Below.refl _ _)

set_option maxRecDepth 20000 in
set_option maxHeartbeats 2000000 in
theorem rmany_none (L : Nat → Nat) (f : Nat → Nat → Int) (ao : Option Addr) (len cap : Nat) (most : Int) (w : World) (h : 0 ≤ most) (hl : len = 0) :
    Calls Try.prog 9 #[.slice ao len cap, .int .i64 most] w (LAns 0 0 L f w) := by
  subst hl
  have q1 : ¬ most < 0 := by omega
  go_enter Try.func9, Try.ntmps9
  go_wp2
  go_ret2
  exact lans_none (Below.refl _ _)

set_option maxRecDepth 20000 in
set_option maxHeartbeats 2000000 in
theorem rmany_short (L : Nat → Nat) (f : Nat → Nat → Int) (ao : Option Addr) (len cap : Nat) (most : Int) (w : World) (h : 0 ≤ most) (hl : 0 < len) (hl4 : len < 4) :
    Calls Try.prog 9 #[.slice ao len cap, .int .i64 most] w (LAns 0 4 L f w) := by
  have q1 : ¬ most < 0 := by omega
  have q2 : ¬ (len : Int) = 0 := by omega
  have q3 : (len : Int) < 4 := by omega
  have q4 : ((len : Int) == 0) = false := by rw [beq_eq_false_iff_ne]; omega
  have q5 : (len == 0) = false := by rw [beq_eq_false_iff_ne]; omega
  go_enter Try.func9, Try.ntmps9
  go_wp2
  go_ret2
  exact lans_none (Below.refl _ _)

set_option maxRecDepth 20000 in
set_option maxHeartbeats 2000000 in
theorem rmany_zero (m : Nat → Int) (L : Nat → Nat) (f : Nat → Nat → Int) (ao : Option Addr) (len cap : Nat) (most : Int) (w : World) (hb : Bys w ao len cap m) (hm : ∀ j, 0 ≤ m j ∧ m j < 256) (hlen : len ≤ 1048576) (hlc : len ≤ cap) (hmo0 : 0 ≤ most) (hmo1 : most ≤ 9223372036854775807) (h4 : 4 ≤ len) (F : Nat) (hF : o4 m 0 = (F : Int)) (hz : F = 0) :
    Calls Try.prog 9 #[.slice ao len cap, .int .i64 most] w (LAns 0 5 L f w) := by
  obtain ⟨b0, off0, rfl, _, _, hb0, hcell⟩ := bys_pos hb (by omega)
  have sl := sl_four b0 off0 len cap h4 hlc
  have ro := roff_any m b0 off0 4 cap w (fun j hj => hcell j (by omega)) (fun j _ => hm j) (by omega)
  rw [hF] at ro
  have HRO := hid ro
  have q1 : ¬ most < 0 := by omega
  have q2 : ¬ (len : Int) = 0 := by omega
  have q3 : ¬ (len : Int) < 4 := by omega
  have q4 : ((len : Int) == 0) = false := by rw [beq_eq_false_iff_ne]; omega
  have q5 : (len == 0) = false := by rw [beq_eq_false_iff_ne]; omega
  have q6 : decide ((len : Int) < 4) = false := by simp; omega
  have q7 : (0 : Int) ≤ (F : Int) := by omega
  have hFb : (F : Int) ≤ 4294967295 := by have := o4_bd m 0 (fun j _ _ => hm j); omega
  subst hz
  clear ro hb hcell hb0 hF hm
  go_enter Try.func9, Try.ntmps9
  go_wp2_with (go_at_call 19; refine HRO.out.mono ?_; rintro e w1 ⟨rfl, hb1⟩; have HB1 := hid hb1; clear hb1)
  go_ret2
  exact lans_none HB1.out

set_option maxRecDepth 20000 in
set_option maxHeartbeats 2000000 in
theorem rmany_odd (m : Nat → Int) (L : Nat → Nat) (f : Nat → Nat → Int) (ao : Option Addr) (len cap : Nat) (most : Int) (w : World) (hb : Bys w ao len cap m) (hm : ∀ j, 0 ≤ m j ∧ m j < 256) (hlen : len ≤ 1048576) (hlc : len ≤ cap) (hmo0 : 0 ≤ most) (hmo1 : most ≤ 9223372036854775807) (h4 : 4 ≤ len) (F : Nat) (hF : o4 m 0 = (F : Int)) (hz : ¬ F = 0) (hq : ¬ F % 4 = 0) :
    Calls Try.prog 9 #[.slice ao len cap, .int .i64 most] w (LAns 0 5 L f w) := by
  obtain ⟨b0, off0, rfl, _, _, hb0, hcell⟩ := bys_pos hb (by omega)
  have sl := sl_four b0 off0 len cap h4 hlc
  have ro := roff_any m b0 off0 4 cap w (fun j hj => hcell j (by omega)) (fun j _ => hm j) (by omega)
  rw [hF] at ro
  have HRO := hid ro
  have q1 : ¬ most < 0 := by omega
  have q2 : ¬ (len : Int) = 0 := by omega
  have q3 : ¬ (len : Int) < 4 := by omega
  have q4 : ((len : Int) == 0) = false := by rw [beq_eq_false_iff_ne]; omega
  have q5 : (len == 0) = false := by rw [beq_eq_false_iff_ne]; omega
  have q6 : decide ((len : Int) < 4) = false := by simp; omega
  have q7 : (0 : Int) ≤ (F : Int) := by omega
  have hFb : (F : Int) ≤ 4294967295 := by have := o4_bd m 0 (fun j _ _ => hm j); omega
  have r1 : ((F : Int) == 0) = false := by rw [beq_eq_false_iff_ne]; omega
  have r2 : (F == 0) = false := by rw [beq_eq_false_iff_ne]; omega
  have r3 : ¬ (F : Int) % 4 = 0 := by omega
  have r4 : ((F : Int) % 4 != 0) = true := by rw [bne_iff_ne]; exact r3
  clear ro hb hcell hb0 hF hm
  go_enter Try.func9, Try.ntmps9
  go_wp2_with (go_at_call 19; refine HRO.out.mono ?_; rintro e w1 ⟨rfl, hb1⟩; have HB1 := hid hb1; clear hb1)
  go_ret2
  exact lans_none HB1.out

set_option maxRecDepth 20000 in
set_option maxHeartbeats 2000000 in
theorem rmany_far (m : Nat → Int) (L : Nat → Nat) (f : Nat → Nat → Int) (ao : Option Addr) (len cap : Nat) (most : Int) (w : World) (hb : Bys w ao len cap m) (hm : ∀ j, 0 ≤ m j ∧ m j < 256) (hlen : len ≤ 1048576) (hlc : len ≤ cap) (hmo0 : 0 ≤ most) (hmo1 : most ≤ 9223372036854775807) (h4 : 4 ≤ len) (F : Nat) (hF : o4 m 0 = (F : Int)) (hz : ¬ F = 0) (hq : F % 4 = 0) (hl : len < F) :
    Calls Try.prog 9 #[.slice ao len cap, .int .i64 most] w (LAns 0 5 L f w) := by
  obtain ⟨b0, off0, rfl, _, _, hb0, hcell⟩ := bys_pos hb (by omega)
  have sl := sl_four b0 off0 len cap h4 hlc
  have ro := roff_any m b0 off0 4 cap w (fun j hj => hcell j (by omega)) (fun j _ => hm j) (by omega)
  rw [hF] at ro
  have HRO := hid ro
  have q1 : ¬ most < 0 := by omega
  have q2 : ¬ (len : Int) = 0 := by omega
  have q3 : ¬ (len : Int) < 4 := by omega
  have q4 : ((len : Int) == 0) = false := by rw [beq_eq_false_iff_ne]; omega
  have q5 : (len == 0) = false := by rw [beq_eq_false_iff_ne]; omega
  have q6 : decide ((len : Int) < 4) = false := by simp; omega
  have q7 : (0 : Int) ≤ (F : Int) := by omega
  have hFb : (F : Int) ≤ 4294967295 := by have := o4_bd m 0 (fun j _ _ => hm j); omega
  have r1 : ((F : Int) == 0) = false := by rw [beq_eq_false_iff_ne]; omega
  have r2 : (F == 0) = false := by rw [beq_eq_false_iff_ne]; omega
  have r3 : (F : Int) % 4 = 0 := by omega
  have r5 : (len : Int) < (F : Int) := by omega
  clear ro hb hcell hb0 hF hm
  go_enter Try.func9, Try.ntmps9
  go_wp2_with (go_at_call 19; refine HRO.out.mono ?_; rintro e w1 ⟨rfl, hb1⟩; have HB1 := hid hb1; clear hb1)
  go_ret2
  exact lans_none HB1.out

set_option maxRecDepth 20000 in
set_option maxHeartbeats 2000000 in
theorem rmany_long (m : Nat → Int) (L : Nat → Nat) (f : Nat → Nat → Int) (ao : Option Addr) (len cap : Nat) (most : Int) (w : World) (hb : Bys w ao len cap m) (hm : ∀ j, 0 ≤ m j ∧ m j < 256) (hlen : len ≤ 1048576) (hlc : len ≤ cap) (hmo0 : 0 ≤ most) (hmo1 : most ≤ 9223372036854775807) (h4 : 4 ≤ len) (F : Nat) (hF : o4 m 0 = (F : Int)) (n : Nat) (hn : F = 4 * n) (hn1 : 1 ≤ n) (hl : F ≤ len) (hmo : most < (n : Int)) :
    Calls Try.prog 9 #[.slice ao len cap, .int .i64 most] w (LAns 0 6 L f w) := by
  obtain ⟨b0, off0, rfl, _, _, hb0, hcell⟩ := bys_pos hb (by omega)
  have sl := sl_four b0 off0 len cap h4 hlc
  have ro := roff_any m b0 off0 4 cap w (fun j hj => hcell j (by omega)) (fun j _ => hm j) (by omega)
  rw [hF] at ro
  have HRO := hid ro
  have q1 : ¬ most < 0 := by omega
  have q2 : ¬ (len : Int) = 0 := by omega
  have q3 : ¬ (len : Int) < 4 := by omega
  have q4 : ((len : Int) == 0) = false := by rw [beq_eq_false_iff_ne]; omega
  have q5 : (len == 0) = false := by rw [beq_eq_false_iff_ne]; omega
  have q6 : decide ((len : Int) < 4) = false := by simp; omega
  have q7 : (0 : Int) ≤ (F : Int) := by omega
  have hFb : (F : Int) ≤ 4294967295 := by have := o4_bd m 0 (fun j _ _ => hm j); omega
  have r1 : ((F : Int) == 0) = false := by rw [beq_eq_false_iff_ne]; omega
  have r2 : (F == 0) = false := by rw [beq_eq_false_iff_ne]; omega
  have r3 : (F : Int) % 4 = 0 := by omega
  have r5 : ¬ (len : Int) < (F : Int) := by omega
  have r6 : (F : Int) / 4 = (n : Int) := by omega
  clear hn
  clear ro hb hcell hb0 hF hm
  go_enter Try.func9, Try.ntmps9
  go_wp2_with (go_at_call 19; refine HRO.out.mono ?_; rintro e w1 ⟨rfl, hb1⟩; have HB1 := hid hb1; clear hb1)
  go_ret2
  exact lans_none HB1.out

set_option maxRecDepth 20000 in
set_option maxHeartbeats 2000000 in
theorem rmany_order (m : Nat → Int) (ao : Option Addr) (len cap n : Nat) (most : Int) (w : World) (hb : Bys w ao len cap m) (hm : ∀ j, 0 ≤ m j ∧ m j < 256) (hlen : len ≤ 1048576) (hlc : len ≤ cap) (hn1 : 1 ≤ n) (hfl : 4 * n ≤ len) (hmo0 : (n : Int) ≤ most) (hmo1 : most ≤ 9223372036854775807) (os : Nat → Nat) (hos : ∀ i, i < n → o4 m (4 * i) = (os i : Int)) (hfi : o4 m 0 = ((4 * n : Nat) : Int)) (hrb : risB (fun i => (os i : Int)) ((4 * n : Nat) : Int) len n = false) :
    Calls Try.prog 9 #[.slice ao len cap, .int .i64 most] w (LAns 0 5 (fun r => endAt os len n r - os r) (fun r q => m (os r + q)) w) := by
  have h4 : 4 ≤ len := by omega
  obtain ⟨F, eF⟩ : ∃ F, 4 * n = F := ⟨_, rfl⟩
  have hF : o4 m 0 = (F : Int) := by rw [hfi, eF]
  obtain ⟨b0, off0, rfl, _, _, hb0, hcell⟩ := bys_pos hb (by omega)
  have sl := sl_four b0 off0 len cap h4 hlc
  have ro := roff_any m b0 off0 4 cap w (fun j hj => hcell j (by omega)) (fun j _ => hm j) (by omega)
  rw [hF] at ro
  have HRO := hid ro
  have q1 : ¬ most < 0 := by omega
  have q2 : ¬ (len : Int) = 0 := by omega
  have q3 : ¬ (len : Int) < 4 := by omega
  have q4 : ((len : Int) == 0) = false := by rw [beq_eq_false_iff_ne]; omega
  have q5 : (len == 0) = false := by rw [beq_eq_false_iff_ne]; omega
  have q6 : decide ((len : Int) < 4) = false := by simp; omega
  have q7 : (0 : Int) ≤ (F : Int) := by omega
  have r1 : ((F : Int) == 0) = false := by rw [beq_eq_false_iff_ne]; omega
  have r2 : (F == 0) = false := by rw [beq_eq_false_iff_ne]; omega
  have r3 : (F : Int) % 4 = 0 := by omega
  have r5 : ¬ (len : Int) < (F : Int) := by omega
  have r6 : (F : Int) / 4 = (n : Int) := by omega
  have r7 : ¬ most < (n : Int) := by omega
  have r8 : (F : Int) ≤ 1048576 := by omega
  have r9 : decide (len < F) = false := by simp; omega
  have r10 : decide ((len : Int) < (F : Int)) = false := by simp; omega
  have r11 : decide (most < (n : Int)) = false := by simp; omega
  rw [eF] at hrb
  have HBY : Hid (∀ W, Below w.heap.size w W → Bys W (some ⟨b0, off0, none⟩) len cap m) := fun W hW => hb.below hW
  have HCE := hid hcell
  have HB0 := hid hb0
  have HM := hid hm
  have HOS := hid hos
  have EF := hid eF
  have HRB := hid hrb
  clear ro hb hcell hb0 hF hm hos hfi eF hrb
  go_enter Try.func9, Try.ntmps9
  go_wp2_with (go_at_call 19; refine HRO.out.mono ?_; rintro e w1 ⟨rfl, hb1⟩; have HB1 := hid hb1; clear hb1)
  have hz1 := HB1.out.size
  clear sl q1 q2 q3 q4 q5 q6 r1 r2 r3 r5 r6 r7
  go_loopw [7, 8] (fun v i wr => ∃ k : Nat, k ≤ n ∧ i = .int .i64 ((4 * k : Nat) : Int) ∧ wr.ownsRow w.heap.size 3 1 v k (((List.range k).map fun j => (os j : Int)).map (Value.int .i64)) ∧ Below w.heap.size w wr) (fun _ i _ => F - (intOf i).toNat)
  case atStart => exact ⟨0, by omega, rfl, World.ownsRow_nil _ _ _ _, HB1.out⟩
  case round =>
    obtain ⟨k, hk, rfl, hown, hb⟩ := hrel
    have hz := hb.size
    have eF := EF.out
    by_cases hkn : k < n
    · obtain ⟨K, eK⟩ : ∃ K, 4 * k = K := ⟨_, rfl⟩
      rw [eK]
      have p1 : (K : Int) + 4 ≤ (len : Int) := by omega
      have p2 : (0 : Int) ≤ (K : Int) := by omega
      have p3 : (K : Int) ≤ 1048576 := by omega
      have p4 : (K : Int) < (F : Int) := by omega
      have p5 : decide (K < F) = true := by simp; omega
      have sl := fun W => sl22_run W (some ⟨b0, off0, none⟩) len cap K (K + 4) (some (.int .i64 K)) (some (.int .i64 ((K + 4 : Nat) : Int))) (.inl rfl) (.inl rfl) (by omega) (by omega) hlc
      rw [if_neg (by omega), Option.map_some, addr_add, show K + 4 - K = 4 by omega, show ((K + 4 : Nat) : Int) = (K : Int) + 4 by omega] at sl
      have ro := roff_any (fun j => m (K + j)) b0 (off0 + K) 4 (cap - K) wr (fun j hj => by rw [Nat.add_assoc]; exact (below_cell hb HB0.out).trans (HCE.out _ (by omega))) (fun j _ => HM.out _) (by omega)
      have eo : o4 (fun j => m (K + j)) 0 = o4 m K := by unfold o4; simp only [Nat.zero_add, Nat.add_zero, Nat.add_assoc]
      rw [eo, ← eK, HOS.out k hkn] at ro
      rw [eK] at ro
      obtain ⟨X, eX⟩ : ∃ X : Int, (os k : Int) = X := ⟨_, rfl⟩
      rw [eX] at ro
      have HRK := hid ro
      have HB := hid hb
      have HO := hid hown
      have EX := hid eX
      have EK := hid eK
      clear ro eo hown hb eX eK eF
      go_wp2_with (first
        | (go_at_call 19; refine HRK.out.mono ?_; rintro e w3 ⟨rfl, hb3⟩; have HB3 := hid (HB.out.trans (hb3.mono hz)); have HO3 := hid (owns_below HO.out hb3); have hz3 := HB3.out.size; clear hb3)
        | (at_builtin; refine wpList_append_int w3 rfl _ _ rfl w.heap.size u7 k _ (.int .i64 X) rfl rfl HO3.out rfl (by omega) hz3 ?_; intro v5 w5 ho5 hg5; have HB5 := hid (below_grown HB3.out HO3.out hz3 hg5); have HO5 := hid ho5; clear ho5 hg5))
      go_roundw
      case rel =>
        have eK := EK.out
        refine ⟨k + 1, by omega, ?_, ?_, HB5.out⟩
        · show Value.int .i64 _ = Value.int .i64 _
          congr 1
          omega
        · rw [List.range_succ, List.map_append, List.map_append]
          have := HO5.out
          rw [← EX.out] at this
          exact this
      case measure => simp [intOf]; have := EK.out; omega
    · obtain rfl : k = n := by omega
      rw [eF]
      have p5 : decide (F < F) = false := by simp
      have p6 : decide ((F : Int) < (F : Int)) = false := by simp
      obtain ⟨hl, va, vc, hv, hnm⟩ := owns_ints hown
      subst hv
      have hnm' : Nms .i64 wr va k (fun i => (os i : Int)) := by
        rcases hnm with h | ⟨b, off, h1, h2, h3⟩
        · exact .inl h
        · exact .inr ⟨b, off, h1, h2, fun j hj => by
            have := h3 j hj
            dsimp only at this
            rw [List.getD_eq_getElem?_getD, List.getElem?_map, List.getElem?_range hj] at this
            exact this⟩
      have hri := rises_any (fun i => (os i : Int)) va k vc F len wr hnm' (by omega)
      have h4 := HRB.out
      rw [h4] at hri
      have HRI := hid hri
      have HB := hid hb
      clear hl hnm hnm' hri hown hb h4 eF
      go_wp2_with (go_at_call 20; refine HRI.out.mono ?_; rintro e w3 ⟨rfl, hb3⟩; have HB3 := hid (HB.out.trans (hb3.mono hz)); clear hb3)
      go_ret2
      exact lans_none HB3.out

set_option maxRecDepth 20000 in
set_option maxHeartbeats 2000000 in
theorem rmany_ok (m : Nat → Int) (ao : Option Addr) (len cap n : Nat) (most : Int) (w : World) (hb : Bys w ao len cap m) (hm : ∀ j, 0 ≤ m j ∧ m j < 256) (hlen : len ≤ 1048576) (hlc : len ≤ cap) (hn1 : 1 ≤ n) (hfl : 4 * n ≤ len) (hmo0 : (n : Int) ≤ most) (hmo1 : most ≤ 9223372036854775807) (os : Nat → Nat) (hos : ∀ i, i < n → o4 m (4 * i) = (os i : Int)) (hfi : o4 m 0 = ((4 * n : Nat) : Int)) (hrb : risB (fun i => (os i : Int)) ((4 * n : Nat) : Int) len n = true) :
    Calls Try.prog 9 #[.slice ao len cap, .int .i64 most] w (LAns n 0 (fun r => endAt os len n r - os r) (fun r q => m (os r + q)) w) := by
  have h4 : 4 ≤ len := by omega
  obtain ⟨F, eF⟩ : ∃ F, 4 * n = F := ⟨_, rfl⟩
  have hF : o4 m 0 = (F : Int) := by rw [hfi, eF]
  obtain ⟨b0, off0, rfl, _, _, hb0, hcell⟩ := bys_pos hb (by omega)
  have sl := sl_four b0 off0 len cap h4 hlc
  have ro := roff_any m b0 off0 4 cap w (fun j hj => hcell j (by omega)) (fun j _ => hm j) (by omega)
  rw [hF] at ro
  have HRO := hid ro
  have q1 : ¬ most < 0 := by omega
  have q2 : ¬ (len : Int) = 0 := by omega
  have q3 : ¬ (len : Int) < 4 := by omega
  have q4 : ((len : Int) == 0) = false := by rw [beq_eq_false_iff_ne]; omega
  have q5 : (len == 0) = false := by rw [beq_eq_false_iff_ne]; omega
  have q6 : decide ((len : Int) < 4) = false := by simp; omega
  have q7 : (0 : Int) ≤ (F : Int) := by omega
  have r1 : ((F : Int) == 0) = false := by rw [beq_eq_false_iff_ne]; omega
  have r2 : (F == 0) = false := by rw [beq_eq_false_iff_ne]; omega
  have r3 : (F : Int) % 4 = 0 := by omega
  have r5 : ¬ (len : Int) < (F : Int) := by omega
  have r6 : (F : Int) / 4 = (n : Int) := by omega
  have r7 : ¬ most < (n : Int) := by omega
  have r8 : (F : Int) ≤ 1048576 := by omega
  have r9 : decide (len < F) = false := by simp; omega
  have r10 : decide ((len : Int) < (F : Int)) = false := by simp; omega
  have r11 : decide (most < (n : Int)) = false := by simp; omega
  rw [eF] at hrb
  have HBY : Hid (∀ W, Below w.heap.size w W → Bys W (some ⟨b0, off0, none⟩) len cap m) := fun W hW => hb.below hW
  have HCE := hid hcell
  have HB0 := hid hb0
  have HM := hid hm
  have HOS := hid hos
  have EF := hid eF
  have HRB := hid hrb
  clear ro hb hcell hb0 hF hm hos hfi eF hrb
  go_enter Try.func9, Try.ntmps9
  go_wp2_with (go_at_call 19; refine HRO.out.mono ?_; rintro e w1 ⟨rfl, hb1⟩; have HB1 := hid hb1; clear hb1)
  have hz1 := HB1.out.size
  clear sl q1 q2 q3 q4 q5 q6 r1 r2 r3 r5 r6 r7
  go_loopw [7, 8] (fun v i wr => ∃ k : Nat, k ≤ n ∧ i = .int .i64 ((4 * k : Nat) : Int) ∧ wr.ownsRow w.heap.size 3 1 v k (((List.range k).map fun j => (os j : Int)).map (Value.int .i64)) ∧ Below w.heap.size w wr) (fun _ i _ => F - (intOf i).toNat)
  case atStart => exact ⟨0, by omega, rfl, World.ownsRow_nil _ _ _ _, HB1.out⟩
  case round =>
    obtain ⟨k, hk, rfl, hown, hb⟩ := hrel
    have hz := hb.size
    have eF := EF.out
    by_cases hkn : k < n
    · obtain ⟨K, eK⟩ : ∃ K, 4 * k = K := ⟨_, rfl⟩
      rw [eK]
      have p1 : (K : Int) + 4 ≤ (len : Int) := by omega
      have p2 : (0 : Int) ≤ (K : Int) := by omega
      have p3 : (K : Int) ≤ 1048576 := by omega
      have p4 : (K : Int) < (F : Int) := by omega
      have p5 : decide (K < F) = true := by simp; omega
      have sl := fun W => sl22_run W (some ⟨b0, off0, none⟩) len cap K (K + 4) (some (.int .i64 K)) (some (.int .i64 ((K + 4 : Nat) : Int))) (.inl rfl) (.inl rfl) (by omega) (by omega) hlc
      rw [if_neg (by omega), Option.map_some, addr_add, show K + 4 - K = 4 by omega, show ((K + 4 : Nat) : Int) = (K : Int) + 4 by omega] at sl
      have ro := roff_any (fun j => m (K + j)) b0 (off0 + K) 4 (cap - K) wr (fun j hj => by rw [Nat.add_assoc]; exact (below_cell hb HB0.out).trans (HCE.out _ (by omega))) (fun j _ => HM.out _) (by omega)
      have eo : o4 (fun j => m (K + j)) 0 = o4 m K := by unfold o4; simp only [Nat.zero_add, Nat.add_zero, Nat.add_assoc]
      rw [eo, ← eK, HOS.out k hkn] at ro
      rw [eK] at ro
      obtain ⟨X, eX⟩ : ∃ X : Int, (os k : Int) = X := ⟨_, rfl⟩
      rw [eX] at ro
      have HRK := hid ro
      have HB := hid hb
      have HO := hid hown
      have EX := hid eX
      have EK := hid eK
      clear ro eo hown hb eX eK eF
      go_wp2_with (first
        | (go_at_call 19; refine HRK.out.mono ?_; rintro e w3 ⟨rfl, hb3⟩; have HB3 := hid (HB.out.trans (hb3.mono hz)); have HO3 := hid (owns_below HO.out hb3); have hz3 := HB3.out.size; clear hb3)
        | (at_builtin; refine wpList_append_int w3 rfl _ _ rfl w.heap.size u7 k _ (.int .i64 X) rfl rfl HO3.out rfl (by omega) hz3 ?_; intro v5 w5 ho5 hg5; have HB5 := hid (below_grown HB3.out HO3.out hz3 hg5); have HO5 := hid ho5; clear ho5 hg5))
      go_roundw
      case rel =>
        have eK := EK.out
        refine ⟨k + 1, by omega, ?_, ?_, HB5.out⟩
        · show Value.int .i64 _ = Value.int .i64 _
          congr 1
          omega
        · rw [List.range_succ, List.map_append, List.map_append]
          have := HO5.out
          rw [← EX.out] at this
          exact this
      case measure => simp [intOf]; have := EK.out; omega
    · obtain rfl : k = n := by omega
      rw [eF]
      have p5 : decide (F < F) = false := by simp
      have p6 : decide ((F : Int) < (F : Int)) = false := by simp
      obtain ⟨hl, va, vc, hv, hnm⟩ := owns_ints hown
      subst hv
      have hnm' : Nms .i64 wr va k (fun i => (os i : Int)) := by
        rcases hnm with h | ⟨b, off, h1, h2, h3⟩
        · exact .inl h
        · exact .inr ⟨b, off, h1, h2, fun j hj => by
            have := h3 j hj
            dsimp only at this
            rw [List.getD_eq_getElem?_getD, List.getElem?_map, List.getElem?_range hj] at this
            exact this⟩
      have hri := rises_any (fun i => (os i : Int)) va k vc F len wr hnm' (by omega)
      have h4 := HRB.out
      rw [h4] at hri
      have hro := risB_out h4
      have HR : Hid (∀ r, r < k → os r ≤ endAt os len k r ∧ endAt os len k r ≤ len) := fun r hr => by
        have h1 := hro r hr
        unfold risAt at h1
        dsimp only at h1
        unfold endAt
        by_cases h : r + 1 < k
        · rw [if_pos h]
          have h2 := hro (r + 1) h
          unfold risAt at h2
          rw [if_neg (by omega)] at h2
          dsimp only at h2
          rw [show r + 1 - 1 = r by omega] at h2
          omega
        · rw [if_neg h]
          omega
      have HRI := hid hri
      have HO := hid hown
      have HB := hid hb
      obtain ⟨Z1, eZ1⟩ : ∃ Z1, k + 1 = Z1 := ⟨_, rfl⟩
      have E1 := hid eZ1
      have hkb : k ≤ 1000000000000 := by omega
      clear hl hnm hnm' hri hown hb h4 hro eZ1 eF
      go_wp2_with (first
        | (go_at_call 20; refine HRI.out.mono ?_; rintro e w3 ⟨rfl, hb3⟩; have HB3 := hid (HB.out.trans (hb3.mono hz)); have HO3 := hid (owns_below HO.out hb3); have hz3 := HB3.out.size; clear hb3)
        | (at_builtin; refine wpList_append_int w3 rfl _ _ rfl w.heap.size (.slice va k vc) k _ (.int .i64 len) rfl rfl HO3.out rfl (by omega) hz3 ?_; intro v5 w5 ho5 hg5; have HB5 := hid (below_grown HB3.out HO3.out hz3 hg5); obtain ⟨b5, o5, c5, rfl, hb5, hc5⟩ := at_row E1.out ho5; have HC5 := hid hc5; have HL5 := hid hb5; clear ho5 hg5 hc5 hb5))
      have hz5 := HB5.out.size
      go_loopw [9, 10] (fun out i wr => ∃ r : Nat, r ≤ k ∧ i = .int .i64 r ∧ (∃ A C, PR wr w5.heap.size A (fun r => endAt os len k r - os r) C (fun r q => m (os r + q)) r out) ∧ Below w5.heap.size w5 wr) (fun _ i _ => k - (intOf i).toNat)
      case atStart => exact ⟨0, by omega, rfl, ⟨fun _ => none, fun _ => 0, World.ownsRow_nil _ _ _ _, fun j hj => absurd hj (by omega)⟩, Below.refl _ _⟩
      case round =>
        obtain ⟨r, hr, rfl, ⟨A, C, hpr⟩, hbr⟩ := hrel
        have hzr := hbr.size
        have hbw := HB5.out.trans (hbr.mono hz5)
        have hE1 := E1.out
        obtain ⟨V2, eV2⟩ : ∃ V2, r + 1 = V2 := ⟨_, rfl⟩
        have v0 : (r : Int) + 1 = (V2 : Int) := by omega
        by_cases hrk : r < k
        · obtain ⟨hd1, hd2⟩ := HR.out r hrk
          obtain ⟨P, eP⟩ : ∃ P, os r = P := ⟨_, rfl⟩
          obtain ⟨Q, eQ⟩ : ∃ Q, endAt os len k r = Q := ⟨_, rfl⟩
          rw [eP, eQ] at hd1
          rw [eQ] at hd2
          obtain ⟨l, el⟩ : ∃ l, Q - P = l := ⟨_, rfl⟩
          obtain ⟨c1, ec⟩ : ∃ c1, cap - P = c1 := ⟨_, rfl⟩
          obtain ⟨ad, had⟩ : ∃ ad, (if cap = P then some (⟨b0, off0, none⟩ : Addr) else Option.map (fun x : Addr => x.add P) (some ⟨b0, off0, none⟩)) = some ad := by
            by_cases h : cap = P
            · exact ⟨_, if_pos h⟩
            · exact ⟨_, if_neg h⟩
          have sl := fun W => sl22_run W (some ⟨b0, off0, none⟩) len cap P Q (some (.int .i64 P)) (some (.int .i64 Q)) (.inl rfl) (.inl rfl) hd1 hd2 hlc
          have bp := bys_part (HBY.out _ hbw) P Q hd1 hd2
          rw [had, el, ec] at bp
          rw [had, el, ec] at sl
          have hl1 : l ≤ 1048576 := by omega
          have HLD : Hid (∀ W, Below w5.heap.size w5 W → W.cell? ⟨b5, o5 + r, none⟩ = some (.int .i64 (P : Int)) ∧ W.cell? ⟨b5, o5 + V2, none⟩ = some (.int .i64 (Q : Int))) := by
            intro W hW
            have hll : ((List.range k).map fun j => (os j : Int)).length = k := by simp
            refine ⟨(below_cell hW HL5.out).trans ?_, (below_cell hW HL5.out).trans ?_⟩
            · rw [HC5.out r (by omega), List.getD_eq_getElem?_getD, List.getElem?_append_left (by omega), List.getElem?_map, List.getElem?_range hrk, ← eP]
              rfl
            · rw [HC5.out V2 (by omega), List.getD_eq_getElem?_getD]
              unfold endAt at eQ
              by_cases h : r + 1 < k
              · rw [if_pos h] at eQ
                rw [List.getElem?_append_left (by omega), List.getElem?_map, ← eV2, List.getElem?_range h, ← eQ]
                rfl
              · rw [if_neg h] at eQ
                rw [List.getElem?_append_right (by omega), hll, show V2 - k = 0 by omega, ← eQ]
                rfl
          have q1 : (r : Int) + 1 < (Z1 : Int) := by omega
          have q2 : (0 : Int) ≤ (P : Int) := by omega
          have q3 : (Q : Int) ≤ 1048576 := by omega
          have q6 : (P : Int) ≤ (Q : Int) := by omega
          have q7' : (Q : Int) ≤ (len : Int) := by omega
          have k2 : (0 : Int) ≤ (r : Int) := by omega
          have v1 : (r : Int) < (Z1 : Int) := by omega
          have v2 : (V2 : Int) < (Z1 : Int) := by omega
          have v4 : (0 : Int) ≤ (V2 : Int) := by omega
          have v5 : IntKind.i64.wrap ((r : Int) + 1) = (V2 : Int) := by rw [v0]; exact i64_of _ (by omega) (by omega)
          have v6 : IntKind.i64.wrap (V2 : Int) = (V2 : Int) := i64_of _ (by omega) (by omega)
          have v7 : decide (V2 < Z1) = true := by simp; omega
          have HNEW := hid (World.ownsRow_lit (base := w5.heap.size) (e := 5) (size := 1) wr.drew #[] 0 hzr (by decide) rfl)
          have HBA := hid (bp.below ((Below.refl wr.heap.size wr).drew.alloc (Nat.le_refl _) (.cells #[] 5)))
          have ef : (fun q => m (os r + q)) = (fun q => m (P + q)) := by rw [eP]
          have EFF := hid ef
          have ell : endAt os len k r - os r = l := by rw [eP, eQ]; exact el
          have ELL := hid ell
          have HPR := hid hpr
          have HBR := hid hbr
          have EV2 := hid eV2
          have hrb : r ≤ 1000000000000 := by omega
          clear bp hpr hbr hbw hd1 hd2 eP eQ el ec had ef ell hE1 eV2
          go_upto_region 24 with fail
          refine wp_region_noPanic ?_
          refine wp_region_held_drew (S := fun w' => Below w5.heap.size w5 w') (by kernel_rfl) (HBR.out.drew) (fun hHeld => ?_)
          refine wpAnyH_take (i := 0) (v := ?v1) rfl (by kernel_rfl) (by kernel_rfl) (by kernel_rfl) (fun _ _ _ h => h) (Or.inl ⟨by rfl, ?hy1⟩) hHeld ?rest1
          case hy1 =>
            intro w hSw
            go_simp
            try with_reducible rfl
          try simp only [Act.put, List.setIfInBounds_toArray, List.set_cons_zero, List.set_cons_succ, Array.toArray_toList, List.getElem_toArray, List.getElem_cons_zero, List.getElem_cons_succ]
          refine wpAnyH_take (i := 2) (v := ?v2) rfl (by kernel_rfl) (by kernel_rfl) (by kernel_rfl) (fun _ _ _ h => h) (Or.inl ⟨by rfl, ?hy2⟩) hHeld ?rest2
          case hy2 =>
            intro w hSw
            go_simp
            try with_reducible rfl
          try simp only [Act.put, List.setIfInBounds_toArray, List.set_cons_zero, List.set_cons_succ, Array.toArray_toList, List.getElem_toArray, List.getElem_cons_zero, List.getElem_cons_succ]
          refine wpAnyH_take (i := 3) (v := ?v3) rfl (by kernel_rfl) (by kernel_rfl) (by kernel_rfl) (fun _ _ _ h => h) (Or.inl ⟨by rfl, ?hy3⟩) hHeld ?rest3
          case hy3 =>
            intro w hSw
            go_simp
            try with_reducible rfl
          try simp only [Act.put, List.setIfInBounds_toArray, List.set_cons_zero, List.set_cons_succ, Array.toArray_toList, List.getElem_toArray, List.getElem_cons_zero, List.getElem_cons_succ]
          refine wpAnyH_take (i := 4) (v := ?v4) rfl (by kernel_rfl) (by kernel_rfl) (by kernel_rfl) (fun _ _ _ h => h) (Or.inl ⟨by rfl, ?hy4⟩) hHeld ?rest4
          case hy4 =>
            intro w hSw
            go_simp
            try with_reducible rfl
          try simp only [Act.put, List.setIfInBounds_toArray, List.set_cons_zero, List.set_cons_succ, Array.toArray_toList, List.getElem_toArray, List.getElem_cons_zero, List.getElem_cons_succ]
          refine wpAnyH_take (i := 5) (v := ?v5) rfl (by kernel_rfl) (by kernel_rfl) (by kernel_rfl) (fun _ _ _ h => h) (Or.inl ⟨by rfl, ?hy5⟩) hHeld ?rest5
          case hy5 =>
            intro w hSw
            go_simp
            try with_reducible rfl
          try simp only [Act.put, List.setIfInBounds_toArray, List.set_cons_zero, List.set_cons_succ, Array.toArray_toList, List.getElem_toArray, List.getElem_cons_zero, List.getElem_cons_succ]
          refine wpAnyH_take (i := 6) (v := ?v6) rfl (by kernel_rfl) (by kernel_rfl) (by kernel_rfl) (fun _ _ _ h => h) (Or.inl ⟨by rfl, ?hy6⟩) hHeld ?rest6
          case hy6 =>
            intro w hSw
            obtain ⟨l1, l2⟩ := HLD.out _ hSw
            go_simp
            try with_reducible rfl
          try simp only [Act.put, List.setIfInBounds_toArray, List.set_cons_zero, List.set_cons_succ, Array.toArray_toList, List.getElem_toArray, List.getElem_cons_zero, List.getElem_cons_succ]
          refine wpAnyH_take (i := 7) (v := ?v7) rfl (by kernel_rfl) (by kernel_rfl) (by kernel_rfl) (fun _ _ _ h => h) (Or.inl ⟨by rfl, ?hy7⟩) hHeld ?rest7
          case hy7 =>
            intro w hSw
            go_simp
            try with_reducible rfl
          try simp only [Act.put, List.setIfInBounds_toArray, List.set_cons_zero, List.set_cons_succ, Array.toArray_toList, List.getElem_toArray, List.getElem_cons_zero, List.getElem_cons_succ]
          refine wpAnyH_take (i := 8) (v := ?v8) rfl (by kernel_rfl) (by kernel_rfl) (by kernel_rfl) (fun _ _ _ h => h) (Or.inl ⟨by rfl, ?hy8⟩) hHeld ?rest8
          case hy8 =>
            intro w hSw
            go_simp
            try with_reducible rfl
          try simp only [Act.put, List.setIfInBounds_toArray, List.set_cons_zero, List.set_cons_succ, Array.toArray_toList, List.getElem_toArray, List.getElem_cons_zero, List.getElem_cons_succ]
          refine wpAnyH_take (i := 9) (v := ?v9) rfl (by kernel_rfl) (by kernel_rfl) (by kernel_rfl) (fun _ _ _ h => h) (Or.inl ⟨by rfl, ?hy9⟩) hHeld ?rest9
          case hy9 =>
            intro w hSw
            go_simp
            try with_reducible rfl
          try simp only [Act.put, List.setIfInBounds_toArray, List.set_cons_zero, List.set_cons_succ, Array.toArray_toList, List.getElem_toArray, List.getElem_cons_zero, List.getElem_cons_succ]
          refine wpAnyH_take (i := 10) (v := ?v10) rfl (by kernel_rfl) (by kernel_rfl) (by kernel_rfl) (fun _ _ _ h => h) (Or.inl ⟨by rfl, ?hy10⟩) hHeld ?rest10
          case hy10 =>
            intro w hSw
            go_simp
            try with_reducible rfl
          try simp only [Act.put, List.setIfInBounds_toArray, List.set_cons_zero, List.set_cons_succ, Array.toArray_toList, List.getElem_toArray, List.getElem_cons_zero, List.getElem_cons_succ]
          refine wpAnyH_take (i := 11) (v := ?v11) rfl (by kernel_rfl) (by kernel_rfl) (by kernel_rfl) (fun _ _ _ h => h) (Or.inl ⟨by rfl, ?hy11⟩) hHeld ?rest11
          case hy11 =>
            intro w hSw
            obtain ⟨l1, l2⟩ := HLD.out _ hSw
            go_simp
            try with_reducible rfl
          try simp only [Act.put, List.setIfInBounds_toArray, List.set_cons_zero, List.set_cons_succ, Array.toArray_toList, List.getElem_toArray, List.getElem_cons_zero, List.getElem_cons_succ]
          refine wpAnyH_take (i := 12) (v := ?v12) rfl (by kernel_rfl) (by kernel_rfl) (by kernel_rfl) (fun _ _ _ h => h) (Or.inl ⟨by rfl, ?hy12⟩) hHeld ?rest12
          case hy12 =>
            intro w hSw
            go_simp
            try with_reducible rfl
          try simp only [Act.put, List.setIfInBounds_toArray, List.set_cons_zero, List.set_cons_succ, Array.toArray_toList, List.getElem_toArray, List.getElem_cons_zero, List.getElem_cons_succ]
          refine wpAnyH_ready (rs := [1]) (by kernel_rfl) (by simp) ?_
          refine AllReadyH.cons rfl (fun K hK => ?_) AllReadyH.nil
          go_simp
          refine hK.out _ _ (HBR.out.drew.alloc hzr _) (fun hHeld => ?_)
          clear hK K
          try simp only [Act.put, List.setIfInBounds_toArray, List.set_cons_zero, List.set_cons_succ, Array.toArray_toList, List.getElem_toArray, List.getElem_cons_zero, List.getElem_cons_succ]
          refine wpAnyH_ready (rs := [13]) (by kernel_rfl) (by simp) ?_
          refine AllReadyH.cons rfl (fun K hK => ?_) AllReadyH.nil
          rw [if_pos (by rfl)]
          refine wp_append_new _ _ _ rfl w5.heap.size _ 0 [] rfl HNEW.out ad l c1 (fun j => m (P + j)) rfl HBA.out (by omega) (Nat.le_trans hzr (by simp)) ?_
          intro v3 w3 ho3 hg3
          have hg3b : (wr.drew.alloc (.cells #[] 5)).grownBy w3 (some wr.drew.heap.size) := hg3
          have HB3 : Hid (Below wr.heap.size wr w3) := (Below.refl _ _).drew.trans (below_new hg3b)
          rw [Nat.zero_add, List.nil_append] at ho3
          obtain ⟨a3, c3, rfl⟩ := owns_form ho3
          have HZ3 : Hid (w3.ownsRow w5.heap.size 5 1 (.slice a3 l c3) ((fun r => endAt os len k r - os r) r) (bl ((fun r q => m (os r + q)) r) ((fun r => endAt os len k r - os r) r))) := by
            show w3.ownsRow w5.heap.size 5 1 (.slice a3 l c3) (endAt os len k r - os r) (bl (fun q => m (os r + q)) (endAt os len k r - os r))
            rw [ELL.out, EFF.out]
            exact ho3
          have HPR3 := hid (HPR.out.below HB3.out)
          have hz3 := Nat.le_trans hzr HB3.out.size
          clear ho3 hg3 hg3b
          refine hK.out _ _ (HBR.out.trans (HB3.out.mono hzr)) (fun hHeld => ?_)
          clear hK K
          try simp only [Act.put, List.setIfInBounds_toArray, List.set_cons_zero, List.set_cons_succ, Array.toArray_toList, List.getElem_toArray, List.getElem_cons_zero, List.getElem_cons_succ]
          refine wpAnyH_ready (rs := [14]) (by kernel_rfl) (by simp) ?_
          refine AllReadyH.cons rfl (fun K hK => ?_) AllReadyH.nil
          go_simp
          refine hK.out _ _ ((HBR.out.trans (HB3.out.mono hzr)).alloc hz3 _) (fun hHeld => ?_)
          clear hK K
          try simp only [Act.put, List.setIfInBounds_toArray, List.set_cons_zero, List.set_cons_succ, Array.toArray_toList, List.getElem_toArray, List.getElem_cons_zero, List.getElem_cons_succ]
          refine wpAnyH_ready (rs := [15]) (by kernel_rfl) (by simp) ?_
          refine AllReadyH.cons rfl (fun K hK => ?_) AllReadyH.nil
          rw [if_pos (by rfl)]
          refine wp_append_part w3 (.tmp 71) (.tmp 85) rfl w5.heap.size u9 r _ (.slice a3 l c3) rfl rfl HPR3.out.1 rfl hrb hz3 ?_
          intro v6 w6 ho6 hg6
          have HB6 := hid (below_grown (HBR.out.trans (HB3.out.mono hzr)) HPR3.out.1 hz3 hg6)
          obtain ⟨A', C', hpr6⟩ := PR.step HPR3.out HZ3.out ho6 hg6
          have HPR6 := hid hpr6
          clear ho6 hg6 hpr6
          refine hK.out _ _ (HB6.out) (fun hHeld => ?_)
          clear hK K
          try simp only [Act.put, List.setIfInBounds_toArray, List.set_cons_zero, List.set_cons_succ, Array.toArray_toList, List.getElem_toArray, List.getElem_cons_zero, List.getElem_cons_succ]
          refine wpAnyH_take (i := 16) (v := ?v13) rfl (by kernel_rfl) (by kernel_rfl) (by kernel_rfl) (fun _ _ _ h => h) (Or.inl ⟨by rfl, ?hy13⟩) hHeld ?rest13
          case hy13 =>
            intro w hSw
            go_simp
            try with_reducible rfl
          try simp only [Act.put, List.setIfInBounds_toArray, List.set_cons_zero, List.set_cons_succ, Array.toArray_toList, List.getElem_toArray, List.getElem_cons_zero, List.getElem_cons_succ]
          refine wpAnyH_done (by kernel_rfl) ?_ _
          refine NoPanic.normal ?_
          go_wp2
          go_roundw
          case rel => exact ⟨r + 1, by omega, by rw [← EV2.out], ⟨A', C', HPR6.out⟩, HB6.out⟩
          case measure => simp [intOf]; have := EV2.out; omega
        · obtain rfl : r = k := by omega
          have q1 : ¬ (r : Int) + 1 < (Z1 : Int) := by omega
          have v7 : decide (V2 < Z1) = false := by simp; omega
          have v8 : decide ((V2 : Int) < (Z1 : Int)) = false := by simp; omega
          obtain ⟨a', c', hv, hP, _⟩ := owns_parts hpr.1 (fun j hj => own_bys (hpr.2 j hj))
          subst hv
          have HP := hid hP
          have HBF := hid hbw
          clear hP hpr hbr hbw hE1 eV2
          go_wp2
          go_ret2
          exact ⟨a', c', A, C, rfl, HP.out, HBF.out⟩

end Go.Proofs.Ytfhplpcbaoefeaa
