/-
  Whether a state is right.
-/

import Derived.Test.YtficlakgameglaaDoorQB
import Derived.Test.YtficlakgameglaaDoorQD
namespace Go.Proofs.YtficlakgameglaaDoor

open Go.RowKit

set_option linter.unusedVariables false

set_option linter.unusedSimpArgs false

set_option maxRecDepth 20000

attribute [local go_sem ↓] lvState_eq svState_eq bdState_eq lvValidator_eq svValidator_eq ixValidator_eq

def vldB (v : VValidator) : Bool := decide (v.f2 % 1000000000 = 0) && (decide (v.f2 ≤ 32000000000) && (epB v.f4 && (epB v.f5 && (epB v.f6 && epB v.f7))))

def valsB (z : Nat → VValidator) (n : Nat) : Bool := (List.range n).all fun i => vldB (z i)

theorem valsB_true {z : Nat → VValidator} {n : Nat} (h : ∀ i, i < n → vldB (z i) = true) : valsB z n = true := by
  unfold valsB
  rw [List.all_eq_true]
  intro i hi
  exact h i (List.mem_range.1 hi)

theorem valsB_false {z : Nat → VValidator} {n i : Nat} (hi : i < n) (h : vldB (z i) = false) : valsB z n = false := by
  unfold valsB
  rw [List.all_eq_false]
  exact ⟨i, List.mem_range.2 hi, by simp [h]⟩

set_option maxHeartbeats 2000000 in
theorem vals_any (z : Nat → VValidator) (a : Option Addr) (n c : Nat) (w : World) (hn : Els w a n 86 (fun i => celL (sValidator (z i)))) (hz : ∀ j, j < n → OkValidator (z j)) (hnb : n ≤ 9223372036854775807) :
    Calls Tryd.prog 24 #[.slice a n c] w fun e w' => e = .returned (.bool (valsB z n)) ∧ Below w.heap.size w w' := by
  have HN := hid hn
  have HZ := hid hz
  have zv := zeroValidator
  clear hn hz
  go_enter Tryd.func24, Tryd.ntmps24
  go_wp2
  go_loopw [7] (fun i wr => ∃ (k : Nat), k ≤ n ∧ i = .int .i64 k ∧ Below w.heap.size w wr ∧ ∀ j, j < k → vldB (z j) = true) (fun i _ => n - (intOf i).toNat)
  case atStart => exact ⟨0, by omega, rfl, Below.refl _ _, fun j hj => by omega⟩
  case round =>
    obtain ⟨k, hk, rfl, hB, hL⟩ := hrel
    have HL := hid hL
    have HB := hid hB
    by_cases hlt : k < n
    · have b1 : decide (k < n) = true := by simp; omega
      have k1 : (k : Int) < (n : Int) := by omega
      have k2 : (0 : Int) ≤ (k : Int) := by omega
      rcases HN.out.below hB with h | ⟨b, off, rfl, hb1, hc⟩
      · omega
      have lv := lvValidator_at (hc k hlt)
      have ix := fun W => ixValidator_run W b off n c k hlt
      obtain ⟨P, eP⟩ : ∃ P, off + 86 * k = P := ⟨_, rfl⟩
      rw [eP] at lv
      simp only [eP] at ix
      have HV := hid (HZ.out k hlt)
      have HF := hid (fun h => valsB_false (z := z) hlt h)
      have HT := hid (show vldB (z k) = true → ∀ j, j < k + 1 → vldB (z j) = true from fun h j hj => by
        by_cases e : j = k
        · rw [e]; exact h
        · exact HL.out j (by omega))
      obtain ⟨v, ev⟩ : ∃ v, z k = v := ⟨_, rfl⟩
      rw [ev] at lv HV HF HT
      have sv := svValidator_newv wr oValidator v
      obtain ⟨W1, hW1⟩ : ∃ W, wr.alloc (.cells (cel (sValidator v)) 82) = W := ⟨_, rfl⟩
      rw [hW1] at sv
      have r1 : W1.heap[wr.heap.size]? = some (.cells (cel (sValidator v)) 82) := by rw [← hW1]; exact heap_new rfl
      have hB1 : Below w.heap.size w W1 := by rw [← hW1]; exact hB.alloc hB.size _
      have HB1 := hid hB1
      obtain ⟨y, ey⟩ : ∃ y, wr.heap.size = y := ⟨_, rfl⟩
      rw [ey] at sv r1
      have l2 := seg_nu r1 2 v.f2 rfl 80 rfl
      have l4 := seg_nu r1 4 v.f4 rfl 82 rfl
      have l5 := seg_nu r1 5 v.f5 rfl 83 rfl
      have l6 := seg_nu r1 6 v.f6 rfl 84 rfl
      have l7 := seg_nu r1 7 v.f7 rfl 85 rfl
      have hv2 := HV.out.2.2.1
      obtain ⟨hv0, hv1⟩ := hv2
      clear hL hB hc hb1 eP ev hB1 r1
      by_cases d1 : v.f2 % 1000000000 = 0
      · have e1 : (v.f2 % 1000000000 != 0) = false := by simp; exact d1
        by_cases d2 : v.f2 ≤ 32000000000
        · have n2 : ¬ 32000000000 < v.f2 := by omega
          obtain ⟨g4, eg4⟩ : ∃ g, v.f4 = g := ⟨_, rfl⟩
          obtain ⟨g5, eg5⟩ : ∃ g, v.f5 = g := ⟨_, rfl⟩
          obtain ⟨g6, eg6⟩ : ∃ g, v.f6 = g := ⟨_, rfl⟩
          obtain ⟨g7, eg7⟩ : ∃ g, v.f7 = g := ⟨_, rfl⟩
          have EV := hid (show vldB v = (epB g4 && (epB g5 && (epB g6 && epB g7))) from by
            unfold vldB
            rw [eg4, eg5, eg6, eg7, decide_eq_true d1, decide_eq_true d2]
            rfl)
          rw [eg4] at l4
          rw [eg5] at l5
          rw [eg6] at l6
          rw [eg7] at l7
          clear eg4 eg5 eg6 eg7 d1 d2
          go_upto_region 6 with fail
          clear hW1
          cases pE4 : epB g4
          · have F := hid (HF.out (by rw [EV.out, pE4]; rfl))
            go_wp2_with (go_at_call 55; refine (ep_any _ _).mono ?_; rintro e w9 ⟨rfl, hw9⟩; obtain rfl := hw9.symm)
            go_ret
            exact ⟨by rw [F.out]; rfl, HB1.out⟩
          cases pE5 : epB g5
          · have F := hid (HF.out (by rw [EV.out, pE4, pE5]; rfl))
            go_wp2_with (go_at_call 55; refine (ep_any _ _).mono ?_; rintro e w9 ⟨rfl, hw9⟩; obtain rfl := hw9.symm)
            go_ret
            exact ⟨by rw [F.out]; rfl, HB1.out⟩
          cases pE6 : epB g6
          · have F := hid (HF.out (by rw [EV.out, pE4, pE5, pE6]; rfl))
            go_wp2_with (go_at_call 55; refine (ep_any _ _).mono ?_; rintro e w9 ⟨rfl, hw9⟩; obtain rfl := hw9.symm)
            go_ret
            exact ⟨by rw [F.out]; rfl, HB1.out⟩
          cases pE7 : epB g7
          · have F := hid (HF.out (by rw [EV.out, pE4, pE5, pE6, pE7]; rfl))
            go_wp2_with (go_at_call 55; refine (ep_any _ _).mono ?_; rintro e w9 ⟨rfl, hw9⟩; obtain rfl := hw9.symm)
            go_ret
            exact ⟨by rw [F.out]; rfl, HB1.out⟩
          have F := hid (HT.out (by rw [EV.out, pE4, pE5, pE6, pE7]; rfl))
          go_wp2_with (go_at_call 55; refine (ep_any _ _).mono ?_; rintro e w9 ⟨rfl, hw9⟩; obtain rfl := hw9.symm)
          go_roundw
          case rel => exact ⟨k + 1, by omega, by go_num, HB1.out, F.out⟩
          case measure => simp [intOf]; omega
        · have n2 : 32000000000 < v.f2 := by omega
          have F := hid (HF.out (by unfold vldB; simp [d2]))
          clear d2
          go_wp2
          go_ret
          exact ⟨by rw [F.out]; rfl, HB1.out⟩
      · have e1 : (v.f2 % 1000000000 != 0) = true := by simp; exact d1
        have F := hid (HF.out (by unfold vldB; simp [d1]))
        clear d1
        go_wp2
        go_ret
        exact ⟨by rw [F.out]; rfl, HB1.out⟩
    · have b1 : decide (k < n) = false := by simp; omega
      have k1 : ¬ (k : Int) < (n : Int) := by omega
      have F : Hid (valsB z n = true) := valsB_true fun i hi => HL.out i (by omega)
      go_wp2
      go_ret
      exact ⟨by rw [F.out]; rfl, HB.out⟩

/-- What Right looks at. -/
structure OkR (x : VState) : Prop where
  o2 : 0 ≤ x.f2 ∧ x.f2 < 18446744073709551616
  o11 : ∀ j, j < x.f11.n → OkValidator (x.f11.z j)
  o12 : ∀ j, j < x.f12.n → 0 ≤ x.f12.z j ∧ x.f12.z j < 18446744073709551616
  o14 : ∀ j, j < 8 → 0 ≤ x.f14 j ∧ x.f14 j < 18446744073709551616
  o21 : ∀ j, j < x.f21.n → 0 ≤ x.f21.z j ∧ x.f21.z j < 18446744073709551616

structure InR (w : World) (x : VState) : Prop where
  i11 : Els w x.f11.a x.f11.n 86 (fun i => celL (sValidator (x.f11.z i)))
  i12 : Z.Nms .u64 w x.f12.a x.f12.n x.f12.z
  i21 : Z.Nms .u64 w x.f21.a x.f21.n x.f21.z

theorem InR.below {w w' : World} {x : VState} (h : InR w x) (hb : Below w.heap.size w w') : InR w' x := ⟨h.i11.below hb, h.i12.below hb, h.i21.below hb⟩

theorem InW.r {w : World} {x : VState} (h : InW w x) : InR w x := ⟨h.i11, h.i12, h.i21⟩

theorem OkState.r {x : VState} (h : OkState x) : OkR x := ⟨h.o2, h.o11, h.o12, h.o14, h.o21⟩

/-- Whether a state is right. -/
def rightB (x : VState) : Bool := fitB x && (lensB x && (timB x && (decide (x.f10 < 1099511627776) && (valsB x.f11.z x.f11.n && (scoB x.f21.z x.f21.n && (togB x.f12.z x.f12.n 144115188075855872 && togB x.f14 8 144115188075855872))))))

set_option maxHeartbeats 4000000 in
theorem right_any (x : VState) (w : World) (hx : OkR x) (hw : InR w x) (hl : x.f11.n ≤ 9223372036854775807 ∧ x.f21.n ≤ 9223372036854775807 ∧ x.f12.n ≤ 9223372036854775807) :
    Calls Tryd.prog 11 #[.agg (cel (sState x))] w fun e w' => e = .returned (.bool (rightB x)) ∧ Below w.heap.size w w' := by
  obtain ⟨W0, hW0⟩ : ∃ W, w.alloc (.cells (cel (sState x)) 49) = W := ⟨_, rfl⟩
  have hB0 : Below w.heap.size w W0 := by rw [← hW0]; exact (Below.refl _ _).alloc (Nat.le_refl _) _
  have r0 : W0.heap[w.heap.size]? = some (.cells (cel (sState x)) 49) := by rw [← hW0]; exact heap_new rfl
  have z0 : w.heap.size < W0.heap.size := by rw [← hW0]; simp
  obtain ⟨y, ey⟩ : ∃ y, w.heap.size = y := ⟨_, rfl⟩
  have hry : ∀ X, Below W0.heap.size W0 X → X.heap[y]? = some (.cells (cel (sState x)) 49) := fun X h => by rw [← ey]; exact (h.block _ z0).trans r0
  have HRY := hid hry
  have HIN : Hid (∀ X, Below W0.heap.size W0 X → InR X x) := fun X h => hw.below (hB0.trans (h.mono hB0.size))
  have HB0w := hid hB0
  have HX := hid hx
  have HL := hid hl
  obtain ⟨B1, e1⟩ : ∃ B, fitB x = B := ⟨_, rfl⟩
  obtain ⟨B2, e2⟩ : ∃ B, lensB x = B := ⟨_, rfl⟩
  obtain ⟨B3, e3⟩ : ∃ B, timB x = B := ⟨_, rfl⟩
  obtain ⟨B5, e5⟩ : ∃ B, valsB x.f11.z x.f11.n = B := ⟨_, rfl⟩
  obtain ⟨B6, e6⟩ : ∃ B, scoB x.f21.z x.f21.n = B := ⟨_, rfl⟩
  obtain ⟨B7, e7⟩ : ∃ B, togB x.f12.z x.f12.n 144115188075855872 = B := ⟨_, rfl⟩
  obtain ⟨B8, e8⟩ : ∃ B, togB x.f14 8 144115188075855872 = B := ⟨_, rfl⟩
  obtain ⟨B4, e4⟩ : ∃ B, decide (x.f10 < 1099511627776) = B := ⟨_, rfl⟩
  have ER := hid (show rightB x = (B1 && (B2 && (B3 && (B4 && (B5 && (B6 && (B7 && B8))))))) from by unfold rightB; rw [e1, e2, e3, e4, e5, e6, e7, e8])
  have C1 : Hid (∀ X, Calls Tryd.prog 21 #[.agg (cel (sState x))] X fun e w' => e = .returned (.bool B1) ∧ Below X.heap.size X w') := fun X => by rw [← e1]; exact fit_any x X
  have C2 : Hid (∀ X, Calls Tryd.prog 22 #[.agg (cel (sState x))] X fun e w' => e = .returned (.bool B2) ∧ Below X.heap.size X w') := fun X => by rw [← e2]; exact lens_any x X
  have C3 : Hid (∀ X, Calls Tryd.prog 23 #[.agg (cel (sState x))] X fun e w' => e = .returned (.bool B3) ∧ Below X.heap.size X w') := fun X => by rw [← e3]; exact tim_any x X HX.out.o2
  have C5 : Hid (∀ X, Below W0.heap.size W0 X → Calls Tryd.prog 24 #[.slice x.f11.a x.f11.n x.f11.c] X fun e w' => e = .returned (.bool B5) ∧ Below X.heap.size X w') := fun X h => by rw [← e5]; exact vals_any x.f11.z x.f11.a x.f11.n x.f11.c X (HIN.out X h).i11 HX.out.o11 HL.out.1
  have C6 : Hid (∀ X, Below W0.heap.size W0 X → Calls Tryd.prog 25 #[.slice x.f21.a x.f21.n x.f21.c] X fun e w' => e = .returned (.bool B6) ∧ w' = X) := fun X h => by rw [← e6]; exact sco_any x.f21.z x.f21.a x.f21.n x.f21.c X (HIN.out X h).i21 HX.out.o21 HL.out.2.1
  have C7 : Hid (∀ X, Below W0.heap.size W0 X → Calls Tryd.prog 26 #[.slice x.f12.a x.f12.n x.f12.c, .int .u64 144115188075855872] X fun e w' => e = .returned (.bool B7) ∧ w' = X) := fun X h => by rw [← e7]; exact tog_any x.f12.z x.f12.a x.f12.n x.f12.c 144115188075855872 X (HIN.out X h).i12 HX.out.o12 (by omega) (by omega) HL.out.2.2
  have C8 : Hid (∀ X, Below W0.heap.size W0 X → Calls Tryd.prog 26 #[.slice (some ⟨y, 979, none⟩) 8 8, .int .u64 144115188075855872] X fun e w' => e = .returned (.bool B8) ∧ w' = X) := fun X h => by rw [← e8]; exact tog_any x.f14 (some ⟨y, 979, none⟩) 8 8 144115188075855872 X (seg_na (HRY.out X h)) HX.out.o14 (by omega) (by omega) (by omega)
  have lvw := lvState_run (HRY.out _ (Below.refl _ _))
  have S0 := hid (Below.refl W0.heap.size W0)
  rw [ER.out]
  clear hB0 r0 hry hx hw hl e1 e2 e3 e5 e6 e7 e8
  go_enter Tryd.func11, Tryd.ntmps11
  go_upto_region 1 with fail
  clear hW0 ey z0
  have HLV : Hid (∀ X, Below W0.heap.size W0 X → (lvState ⟨y, 0, none⟩).run Tryd.prog X = .ok (.agg (cel (sState x))) X) := fun X h => lvState_run (HRY.out X h)
  have HD : Hid (∀ X, Below W0.heap.size W0 X → X.cell? ⟨y, 720, none⟩ = some (.int .u64 x.f10)) := fun X h => cS10 (HRY.out X h)
  have HV : Hid (∀ X, Below W0.heap.size W0 X → X.cell? ⟨y, 721, none⟩ = some (.slice x.f11.a x.f11.n x.f11.c)) := fun X h => cS11 (HRY.out X h)
  have HSC : Hid (∀ X, Below W0.heap.size W0 X → X.cell? ⟨y, 1092, none⟩ = some (.slice x.f21.a x.f21.n x.f21.c)) := fun X h => cS21 (HRY.out X h)
  have HBA : Hid (∀ X, Below W0.heap.size W0 X → X.cell? ⟨y, 722, none⟩ = some (.slice x.f12.a x.f12.n x.f12.c)) := fun X h => cS12 (HRY.out X h)
  cases B1
  · skip
    go_wp2_with (first
      | (go_at_call 21; refine (C1.out _).mono ?_; rintro e w1 ⟨rfl, hb⟩; have S1 := hid (S0.out.trans (hb.mono S0.out.size)); have lv1 := HLV.out _ S1.out; clear hb))
    go_ret
    exact ⟨rfl, HB0w.out.trans (S1.out.mono HB0w.out.size)⟩
  cases B2
  · skip
    go_wp2_with (first
      | (go_at_call 21; refine (C1.out _).mono ?_; rintro e w1 ⟨rfl, hb⟩; have S1 := hid (S0.out.trans (hb.mono S0.out.size)); have lv1 := HLV.out _ S1.out; clear hb)
      | (go_at_call 22; refine (C2.out _).mono ?_; rintro e w2 ⟨rfl, hb⟩; have S2 := hid (S1.out.trans (hb.mono S1.out.size)); have lv2 := HLV.out _ S2.out; clear hb))
    go_ret
    exact ⟨rfl, HB0w.out.trans (S2.out.mono HB0w.out.size)⟩
  cases B3
  · skip
    go_wp2_with (first
      | (go_at_call 21; refine (C1.out _).mono ?_; rintro e w1 ⟨rfl, hb⟩; have S1 := hid (S0.out.trans (hb.mono S0.out.size)); have lv1 := HLV.out _ S1.out; clear hb)
      | (go_at_call 22; refine (C2.out _).mono ?_; rintro e w2 ⟨rfl, hb⟩; have S2 := hid (S1.out.trans (hb.mono S1.out.size)); have lv2 := HLV.out _ S2.out; clear hb)
      | (go_at_call 23; refine (C3.out _).mono ?_; rintro e w3 ⟨rfl, hb⟩; have S3 := hid (S2.out.trans (hb.mono S2.out.size)); have ld := HD.out _ S3.out; have lv := HV.out _ S3.out; clear hb))
    go_ret
    exact ⟨rfl, HB0w.out.trans (S3.out.mono HB0w.out.size)⟩
  cases B4
  · have nd := of_decide_eq_false e4
    clear e4
    go_wp2_with (first
      | (go_at_call 21; refine (C1.out _).mono ?_; rintro e w1 ⟨rfl, hb⟩; have S1 := hid (S0.out.trans (hb.mono S0.out.size)); have lv1 := HLV.out _ S1.out; clear hb)
      | (go_at_call 22; refine (C2.out _).mono ?_; rintro e w2 ⟨rfl, hb⟩; have S2 := hid (S1.out.trans (hb.mono S1.out.size)); have lv2 := HLV.out _ S2.out; clear hb)
      | (go_at_call 23; refine (C3.out _).mono ?_; rintro e w3 ⟨rfl, hb⟩; have S3 := hid (S2.out.trans (hb.mono S2.out.size)); have ld := HD.out _ S3.out; have lv := HV.out _ S3.out; clear hb))
    go_ret
    exact ⟨rfl, HB0w.out.trans (S3.out.mono HB0w.out.size)⟩
  have nd := of_decide_eq_true e4
  clear e4
  cases B5
  · skip
    go_wp2_with (first
      | (go_at_call 21; refine (C1.out _).mono ?_; rintro e w1 ⟨rfl, hb⟩; have S1 := hid (S0.out.trans (hb.mono S0.out.size)); have lv1 := HLV.out _ S1.out; clear hb)
      | (go_at_call 22; refine (C2.out _).mono ?_; rintro e w2 ⟨rfl, hb⟩; have S2 := hid (S1.out.trans (hb.mono S1.out.size)); have lv2 := HLV.out _ S2.out; clear hb)
      | (go_at_call 23; refine (C3.out _).mono ?_; rintro e w3 ⟨rfl, hb⟩; have S3 := hid (S2.out.trans (hb.mono S2.out.size)); have ld := HD.out _ S3.out; have lv := HV.out _ S3.out; clear hb)
      | (go_at_call 24; refine (C5.out _ S3.out).mono ?_; rintro e w4 ⟨rfl, hb⟩; have S4 := hid (S3.out.trans (hb.mono S3.out.size)); have ls := HSC.out _ S4.out; have lb := HBA.out _ S4.out; clear hb))
    go_ret
    exact ⟨rfl, HB0w.out.trans (S4.out.mono HB0w.out.size)⟩
  cases B6
  · skip
    go_wp2_with (first
      | (go_at_call 21; refine (C1.out _).mono ?_; rintro e w1 ⟨rfl, hb⟩; have S1 := hid (S0.out.trans (hb.mono S0.out.size)); have lv1 := HLV.out _ S1.out; clear hb)
      | (go_at_call 22; refine (C2.out _).mono ?_; rintro e w2 ⟨rfl, hb⟩; have S2 := hid (S1.out.trans (hb.mono S1.out.size)); have lv2 := HLV.out _ S2.out; clear hb)
      | (go_at_call 23; refine (C3.out _).mono ?_; rintro e w3 ⟨rfl, hb⟩; have S3 := hid (S2.out.trans (hb.mono S2.out.size)); have ld := HD.out _ S3.out; have lv := HV.out _ S3.out; clear hb)
      | (go_at_call 24; refine (C5.out _ S3.out).mono ?_; rintro e w4 ⟨rfl, hb⟩; have S4 := hid (S3.out.trans (hb.mono S3.out.size)); have ls := HSC.out _ S4.out; have lb := HBA.out _ S4.out; clear hb)
      | (go_at_call 25; refine (C6.out _ S4.out).mono ?_; rintro e w5 ⟨rfl, hw⟩; obtain rfl := hw.symm))
    go_ret
    exact ⟨rfl, HB0w.out.trans (S4.out.mono HB0w.out.size)⟩
  cases B7
  · skip
    go_wp2_with (first
      | (go_at_call 21; refine (C1.out _).mono ?_; rintro e w1 ⟨rfl, hb⟩; have S1 := hid (S0.out.trans (hb.mono S0.out.size)); have lv1 := HLV.out _ S1.out; clear hb)
      | (go_at_call 22; refine (C2.out _).mono ?_; rintro e w2 ⟨rfl, hb⟩; have S2 := hid (S1.out.trans (hb.mono S1.out.size)); have lv2 := HLV.out _ S2.out; clear hb)
      | (go_at_call 23; refine (C3.out _).mono ?_; rintro e w3 ⟨rfl, hb⟩; have S3 := hid (S2.out.trans (hb.mono S2.out.size)); have ld := HD.out _ S3.out; have lv := HV.out _ S3.out; clear hb)
      | (go_at_call 24; refine (C5.out _ S3.out).mono ?_; rintro e w4 ⟨rfl, hb⟩; have S4 := hid (S3.out.trans (hb.mono S3.out.size)); have ls := HSC.out _ S4.out; have lb := HBA.out _ S4.out; clear hb)
      | (go_at_call 25; refine (C6.out _ S4.out).mono ?_; rintro e w5 ⟨rfl, hw⟩; obtain rfl := hw.symm)
      | (go_at_call 26; have k8 := K7; refine (C8.out _ S4.out).mono ?_; rintro e w7 ⟨rfl, hw⟩; obtain rfl := hw.symm)
      | (go_at_call 26; refine (C7.out _ S4.out).mono ?_; rintro e w6 ⟨rfl, hw⟩; obtain rfl := hw.symm; have K7 := True.intro))
    go_ret
    exact ⟨rfl, HB0w.out.trans (S4.out.mono HB0w.out.size)⟩
  cases B8
  · skip
    go_wp2_with (first
      | (go_at_call 21; refine (C1.out _).mono ?_; rintro e w1 ⟨rfl, hb⟩; have S1 := hid (S0.out.trans (hb.mono S0.out.size)); have lv1 := HLV.out _ S1.out; clear hb)
      | (go_at_call 22; refine (C2.out _).mono ?_; rintro e w2 ⟨rfl, hb⟩; have S2 := hid (S1.out.trans (hb.mono S1.out.size)); have lv2 := HLV.out _ S2.out; clear hb)
      | (go_at_call 23; refine (C3.out _).mono ?_; rintro e w3 ⟨rfl, hb⟩; have S3 := hid (S2.out.trans (hb.mono S2.out.size)); have ld := HD.out _ S3.out; have lv := HV.out _ S3.out; clear hb)
      | (go_at_call 24; refine (C5.out _ S3.out).mono ?_; rintro e w4 ⟨rfl, hb⟩; have S4 := hid (S3.out.trans (hb.mono S3.out.size)); have ls := HSC.out _ S4.out; have lb := HBA.out _ S4.out; clear hb)
      | (go_at_call 25; refine (C6.out _ S4.out).mono ?_; rintro e w5 ⟨rfl, hw⟩; obtain rfl := hw.symm)
      | (go_at_call 26; have k8 := K7; refine (C8.out _ S4.out).mono ?_; rintro e w7 ⟨rfl, hw⟩; obtain rfl := hw.symm)
      | (go_at_call 26; refine (C7.out _ S4.out).mono ?_; rintro e w6 ⟨rfl, hw⟩; obtain rfl := hw.symm; have K7 := True.intro))
    go_ret
    exact ⟨rfl, HB0w.out.trans (S4.out.mono HB0w.out.size)⟩
  go_wp2_with (first
      | (go_at_call 21; refine (C1.out _).mono ?_; rintro e w1 ⟨rfl, hb⟩; have S1 := hid (S0.out.trans (hb.mono S0.out.size)); have lv1 := HLV.out _ S1.out; clear hb)
      | (go_at_call 22; refine (C2.out _).mono ?_; rintro e w2 ⟨rfl, hb⟩; have S2 := hid (S1.out.trans (hb.mono S1.out.size)); have lv2 := HLV.out _ S2.out; clear hb)
      | (go_at_call 23; refine (C3.out _).mono ?_; rintro e w3 ⟨rfl, hb⟩; have S3 := hid (S2.out.trans (hb.mono S2.out.size)); have ld := HD.out _ S3.out; have lv := HV.out _ S3.out; clear hb)
      | (go_at_call 24; refine (C5.out _ S3.out).mono ?_; rintro e w4 ⟨rfl, hb⟩; have S4 := hid (S3.out.trans (hb.mono S3.out.size)); have ls := HSC.out _ S4.out; have lb := HBA.out _ S4.out; clear hb)
      | (go_at_call 25; refine (C6.out _ S4.out).mono ?_; rintro e w5 ⟨rfl, hw⟩; obtain rfl := hw.symm)
      | (go_at_call 26; have k8 := K7; refine (C8.out _ S4.out).mono ?_; rintro e w7 ⟨rfl, hw⟩; obtain rfl := hw.symm)
      | (go_at_call 26; refine (C7.out _ S4.out).mono ?_; rintro e w6 ⟨rfl, hw⟩; obtain rfl := hw.symm; have K7 := True.intro))
  go_ret
  exact ⟨rfl, HB0w.out.trans (S4.out.mono HB0w.out.size)⟩

end Go.Proofs.YtficlakgameglaaDoor
