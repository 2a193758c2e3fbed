/-
  Whether a state is right, by the reference.
-/

import Derived.Test.YtficlakgameglaaDoorStD
import Derived.Test.YtficlakgameglaaDoorQD
namespace Go.Proofs.YtficlakgameglaaDoor

open Go.RowKit

set_option linter.unusedVariables false

set_option linter.unusedSimpArgs false

set_option maxRecDepth 20000

set_option maxHeartbeats 1000000 in
theorem rep_any (n : Int) (w : World) :
    Calls Tryd.prog 31 #[.int .u64 n] w fun e w' => e = .returned (.bool (epB n)) ∧ w' = w := by
  by_cases h : n = 18446744073709551615
  · have hb : (n == 18446744073709551615) = true := by simp; exact h
    have e : epB n = true := by unfold epB; simp [h]
    have E := hid e
    clear h e
    go_enter Tryd.func31, Tryd.ntmps31
    go_wp2
    go_ret
    exact ⟨by rw [E.out]; rfl, rfl⟩
  · have hb : (n == 18446744073709551615) = false := by simp; exact h
    have e : epB n = decide (n < 2199023255552) := by unfold epB; simp [h]
    have E := hid e
    clear h e
    go_enter Tryd.func31, Tryd.ntmps31
    go_wp2
    go_ret
    exact ⟨by rw [E.out]; rfl, rfl⟩

set_option maxHeartbeats 1000000 in
theorem rsum_any (z : Nat → Int) (a : Option Addr) (n c : Nat) (w : World) (hn : Z.Nms .u64 w a n z) (hz : ∀ j, j < n → 0 ≤ z j ∧ z j < 18446744073709551616) (hnb : n ≤ 9223372036854775807) :
    Calls Tryd.prog 32 #[.slice a n c] w fun e w' => e = .returned (.bool (togB z n 144115188075855872)) ∧ w' = w := by
  have HN := hid hn
  have HZ := hid hz
  clear hn hz
  go_enter Tryd.func32, Tryd.ntmps32
  go_wp2
  go_loop [3, 4] (fun l i => ∃ (k : Nat) (L : Int), k ≤ n ∧ i = .int .i64 k ∧ l = .int .u64 L ∧ 0 ≤ L ∧ L ≤ 144115188075855872 ∧ L = sumZ z k) (fun _ i => n - (intOf i).toNat)
  case atStart => exact ⟨0, 0, by omega, rfl, rfl, by omega, by omega, rfl⟩
  case round =>
    obtain ⟨k, L, hk, rfl, rfl, hL, hL1, eL⟩ := hrel
    have EL := hid eL
    clear eL
    by_cases hlt : k < n
    · have b1 : decide (k < n) = true := by simp; omega
      have k1 : (k : Int) < (n : Int) := by omega
      have k2 : (0 : Int) ≤ (k : Int) := by omega
      rcases HN.out with h | ⟨b, off, rfl, hb1, hc⟩
      · omega
      have ck := hc k hlt
      have hzk := HZ.out k hlt
      have hs : Hid (sumZ z (k + 1) = sumZ z k + z k) := rfl
      obtain ⟨Z, eZ⟩ : ∃ Z, z k = Z := ⟨_, rfl⟩
      rw [eZ] at ck hzk hs
      obtain ⟨hz0, hz1⟩ := hzk
      clear hc eZ
      have HM : Hid (sumZ z (k + 1) ≤ sumZ z n) := by
        have hm := sumZ_mono (fun j hj => (HZ.out j hj).1) (k + 1) (by omega) (n - (k + 1)) (by omega)
        rw [show k + 1 + (n - (k + 1)) = n by omega] at hm
        exact hm
      by_cases hle : Z ≤ 144115188075855872
      · have hng : ¬ 144115188075855872 < Z := by omega
        by_cases hle2 : L + Z ≤ 144115188075855872
        · have hng2 : ¬ 144115188075855872 < L + Z := by omega
          go_wp2
          go_round
          case rel => exact ⟨k + 1, L + Z, by omega, by go_num, rfl, by omega, by omega, by rw [hs.out, EL.out]⟩
          case measure => simp [intOf]; omega
        · have hgt : 144115188075855872 < L + Z := by omega
          have F : Hid (togB z n 144115188075855872 = false) := by
            have e := EL.out
            have h1 := HM.out
            rw [hs.out] at h1
            unfold togB
            exact decide_eq_false (by omega)
          go_wp2
          go_ret
          exact ⟨by rw [F.out]; rfl, rfl⟩
      · have hgt : 144115188075855872 < Z := by omega
        have F : Hid (togB z n 144115188075855872 = false) := by
          have e := EL.out
          have h1 := HM.out
          rw [hs.out] at h1
          unfold togB
          exact decide_eq_false (by omega)
        go_wp2
        go_ret
        exact ⟨by rw [F.out]; rfl, rfl⟩
    · have b1 : decide (k < n) = false := by simp; omega
      have k1 : ¬ (k : Int) < (n : Int) := by omega
      have F : Hid (togB z n 144115188075855872 = true) := by
        have e := EL.out
        rw [show k = n by omega] at e
        unfold togB
        exact decide_eq_true (by omega)
      go_wp2
      go_ret
      exact ⟨by rw [F.out]; rfl, rfl⟩

theorem right_no {x : VState} (h : rightB x = true → False) : rightB x = false := by
  cases hb : rightB x
  · rfl
  · exact (h hb).elim

/-- What makes a state right. -/
structure RtO (x : VState) : Prop where
  c0 : x.f11.n ≤ 65536
  c1 : x.f12.n = x.f11.n
  c2 : x.f15.n = x.f11.n
  c3 : x.f16.n = x.f11.n
  c4 : x.f21.n = x.f11.n
  c5 : x.f7.n ≤ 1024
  c6 : x.f9.n ≤ 8
  c7 : x.f2 < 1099511627776
  c8 : x.f10 < 1099511627776
  c9 : x.f4.f0 ≤ x.f2
  c10 : x.f18.f0 ≤ x.f2 / 4
  c11 : x.f19.f0 ≤ x.f2 / 4
  c12 : x.f20.f0 ≤ x.f2 / 4
  cv : ∀ j, j < x.f11.n → vldB (x.f11.z j) = true
  cs : ∀ j, j < x.f11.n → x.f21.z j ≤ 1099511627776
  cb : togB x.f12.z x.f12.n 144115188075855872 = true
  cl : togB x.f14 8 144115188075855872 = true

theorem rightB_out {x : VState} (h : rightB x = true) : RtO x := by
  unfold rightB fitB lensB timB valsB scoB at h
  simp only [Bool.and_eq_true, decide_eq_true_eq, List.all_eq_true, List.mem_range] at h
  obtain ⟨⟨⟨⟨⟨⟨⟨f1, f2⟩, f3⟩, f4⟩, f5⟩, f6⟩, f7⟩, ⟨⟨⟨⟨g1, g2⟩, g3⟩, g4⟩, ⟨⟨⟨⟨⟨t1, t2⟩, t3⟩, t4⟩, t5⟩, d, v, s, b, l⟩⟩⟩ := h
  exact ⟨by omega, by omega, by omega, by omega, by omega, by omega, by omega, t1, d, t2, t3, t4, t5, v, fun j hj => s j (by omega), b, l⟩

theorem rightB_in {x : VState} (h : RtO x) : rightB x = true := by
  unfold rightB fitB lensB timB valsB scoB
  simp only [Bool.and_eq_true, decide_eq_true_eq, List.all_eq_true, List.mem_range]
  have c0 := h.c0
  have c1 := h.c1
  have c2 := h.c2
  have c3 := h.c3
  have c4 := h.c4
  have c5 := h.c5
  have c6 := h.c6
  exact ⟨⟨⟨⟨⟨⟨⟨by omega, by omega⟩, by omega⟩, by omega⟩, by omega⟩, by omega⟩, by omega⟩, ⟨⟨⟨⟨by omega, by omega⟩, by omega⟩, by omega⟩, ⟨⟨⟨⟨⟨h.c7, h.c9⟩, h.c10⟩, h.c11⟩, h.c12⟩, h.c8, h.cv, fun j hj => h.cs j (by omega), h.cb, h.cl⟩⟩⟩

attribute [local go_sem ↓] lvState_eq svState_eq bdState_eq lvValidator_eq svValidator_eq ixValidator_eq ixU_eq

set_option maxHeartbeats 8000000 in
theorem rright_any (x : VState) (w : World) (hx : OkR x) (hw : InR w x) (ho : 0 ≤ x.f10 ∧ 0 ≤ x.f4.f0 ∧ 0 ≤ x.f18.f0 ∧ 0 ≤ x.f19.f0 ∧ 0 ≤ x.f20.f0) :
    Calls Tryd.prog 13 #[.agg (cel (sState x))] w fun e w' => e = .returned (.bool (rightB x)) ∧ Below w.heap.size w w' := by
  obtain ⟨W0, hW0⟩ : ∃ W, w.alloc (.cells (cel (sState x)) 49) = W := ⟨_, rfl⟩
  have hB0 : Below w.heap.size w W0 := by rw [← hW0]; exact (Below.refl _ _).alloc (Nat.le_refl _) _
  have r0 : W0.heap[w.heap.size]? = some (.cells (cel (sState x)) 49) := by rw [← hW0]; exact heap_new rfl
  have z0 : w.heap.size < W0.heap.size := by rw [← hW0]; simp
  obtain ⟨y, ey⟩ : ∃ y, w.heap.size = y := ⟨_, rfl⟩
  have HRY : Hid (∀ X, Below W0.heap.size W0 X → X.heap[y]? = some (.cells (cel (sState x)) 49)) := fun X h => by rw [← ey]; exact (h.block _ z0).trans r0
  have HIN : Hid (∀ X, Below W0.heap.size W0 X → InR X x) := fun X h => hw.below (hB0.trans (h.mono hB0.size))
  have HB0w := hid hB0
  have HX := hid hx
  have r1 := HRY.out _ (Below.refl _ _)
  have l11 := cS11 r1
  have l12 := cS12 r1
  have l15 := cS15 r1
  have l16 := cS16 r1
  have l21 := cS21 r1
  have l7 := cS7 r1
  have l9 := cS9 r1
  have l2 := cS2 r1
  have l10 := cS10 r1
  have l4 := cS4 r1
  have l18 := cS18 r1
  have l19 := cS19 r1
  have l20 := cS20 r1
  obtain ⟨o10, o4, o18, o19, o20⟩ := ho
  obtain ⟨o2, o2'⟩ := hx.o2
  obtain ⟨n, e_n⟩ : ∃ k, x.f11.n = k := ⟨_, rfl⟩
  rw [e_n] at l11
  have E_n := hid e_n
  clear e_n
  obtain ⟨m12, e_m12⟩ : ∃ k, x.f12.n = k := ⟨_, rfl⟩
  rw [e_m12] at l12
  have E_m12 := hid e_m12
  clear e_m12
  obtain ⟨m15, e_m15⟩ : ∃ k, x.f15.n = k := ⟨_, rfl⟩
  rw [e_m15] at l15
  have E_m15 := hid e_m15
  clear e_m15
  obtain ⟨m16, e_m16⟩ : ∃ k, x.f16.n = k := ⟨_, rfl⟩
  rw [e_m16] at l16
  have E_m16 := hid e_m16
  clear e_m16
  obtain ⟨m21, e_m21⟩ : ∃ k, x.f21.n = k := ⟨_, rfl⟩
  rw [e_m21] at l21
  have E_m21 := hid e_m21
  clear e_m21
  obtain ⟨k7, e_k7⟩ : ∃ k, x.f7.n = k := ⟨_, rfl⟩
  rw [e_k7] at l7
  have E_k7 := hid e_k7
  clear e_k7
  obtain ⟨k9, e_k9⟩ : ∃ k, x.f9.n = k := ⟨_, rfl⟩
  rw [e_k9] at l9
  have E_k9 := hid e_k9
  clear e_k9
  obtain ⟨s, e_s⟩ : ∃ k, x.f2 = k := ⟨_, rfl⟩
  rw [e_s] at l2 o2 o2'
  have E_s := hid e_s
  clear e_s
  obtain ⟨d, e_d⟩ : ∃ k, x.f10 = k := ⟨_, rfl⟩
  rw [e_d] at l10 o10
  have E_d := hid e_d
  clear e_d
  obtain ⟨hs, e_hs⟩ : ∃ k, x.f4.f0 = k := ⟨_, rfl⟩
  rw [e_hs] at l4 o4
  have E_hs := hid e_hs
  clear e_hs
  obtain ⟨q18, e_q18⟩ : ∃ k, x.f18.f0 = k := ⟨_, rfl⟩
  rw [e_q18] at l18 o18
  have E_q18 := hid e_q18
  clear e_q18
  obtain ⟨q19, e_q19⟩ : ∃ k, x.f19.f0 = k := ⟨_, rfl⟩
  rw [e_q19] at l19 o19
  have E_q19 := hid e_q19
  clear e_q19
  obtain ⟨q20, e_q20⟩ : ∃ k, x.f20.f0 = k := ⟨_, rfl⟩
  rw [e_q20] at l20 o20
  have E_q20 := hid e_q20
  clear e_q20
  clear hB0 r0 hx hw r1
  go_enter Tryd.func13, Tryd.ntmps13
  go_upto_region 1 with fail
  clear hW0 ey z0
  by_cases d0 : n ≤ 65536
  case neg =>
    have F := hid (right_no (x := x) fun h => d0 (by rw [← E_n.out]; have := (rightB_out h).c0; exact this))
    have f0 : (65536 : Int) < (n : Int) := by omega
    clear d0
    go_wp2
    go_ret
    exact ⟨by rw [F.out]; rfl, HB0w.out⟩
  have f0 : (n : Int) ≤ 65536 := by omega
  by_cases d1 : m12 = n
  case neg =>
    have F := hid (right_no (x := x) fun h => d1 (by rw [← E_m12.out, ← E_n.out]; have := (rightB_out h).c1; exact this))
    have f1 : ((n : Int) != (m12 : Int)) = true := by simp; omega
    clear d1
    go_wp2
    go_ret
    exact ⟨by rw [F.out]; rfl, HB0w.out⟩
  rw [d1] at l12
  rw [d1] at E_m12
  clear d1
  by_cases d2 : m15 = n
  case neg =>
    have F := hid (right_no (x := x) fun h => d2 (by rw [← E_m15.out, ← E_n.out]; have := (rightB_out h).c2; exact this))
    have f2 : ((n : Int) != (m15 : Int)) = true := by simp; omega
    clear d2
    go_wp2
    go_ret
    exact ⟨by rw [F.out]; rfl, HB0w.out⟩
  rw [d2] at l15
  rw [d2] at E_m15
  clear d2
  by_cases d3 : m16 = n
  case neg =>
    have F := hid (right_no (x := x) fun h => d3 (by rw [← E_m16.out, ← E_n.out]; have := (rightB_out h).c3; exact this))
    have f3 : ((n : Int) != (m16 : Int)) = true := by simp; omega
    clear d3
    go_wp2
    go_ret
    exact ⟨by rw [F.out]; rfl, HB0w.out⟩
  rw [d3] at l16
  rw [d3] at E_m16
  clear d3
  by_cases d4 : m21 = n
  case neg =>
    have F := hid (right_no (x := x) fun h => d4 (by rw [← E_m21.out, ← E_n.out]; have := (rightB_out h).c4; exact this))
    have f4 : ((n : Int) != (m21 : Int)) = true := by simp; omega
    clear d4
    go_wp2
    go_ret
    exact ⟨by rw [F.out]; rfl, HB0w.out⟩
  rw [d4] at l21
  rw [d4] at E_m21
  clear d4
  go_upto_region 4 with fail
  by_cases d5 : k7 ≤ 1024
  case neg =>
    have F := hid (right_no (x := x) fun h => d5 (by rw [← E_k7.out]; have := (rightB_out h).c5; exact this))
    have f5 : (1024 : Int) < (k7 : Int) := by omega
    clear d5
    go_wp2
    go_ret
    exact ⟨by rw [F.out]; rfl, HB0w.out⟩
  have f5 : (k7 : Int) ≤ 1024 := by omega
  by_cases d6 : k9 ≤ 8
  case neg =>
    have F := hid (right_no (x := x) fun h => d6 (by rw [← E_k9.out]; have := (rightB_out h).c6; exact this))
    have f6 : (8 : Int) < (k9 : Int) := by omega
    clear d6
    go_wp2
    go_ret
    exact ⟨by rw [F.out]; rfl, HB0w.out⟩
  have f6 : (k9 : Int) ≤ 8 := by omega
  by_cases d7 : s < 1099511627776
  case neg =>
    have F := hid (right_no (x := x) fun h => d7 (by rw [← E_s.out]; have := (rightB_out h).c7; exact this))
    have f7 : (1099511627776 : Int) ≤ s := by omega
    clear d7
    go_wp2
    go_ret
    exact ⟨by rw [F.out]; rfl, HB0w.out⟩
  by_cases d8 : d < 1099511627776
  case neg =>
    have F := hid (right_no (x := x) fun h => d8 (by rw [← E_d.out]; have := (rightB_out h).c8; exact this))
    have f8 : (1099511627776 : Int) ≤ d := by omega
    clear d8
    go_wp2
    go_ret
    exact ⟨by rw [F.out]; rfl, HB0w.out⟩
  by_cases d9 : hs ≤ s
  case neg =>
    have F := hid (right_no (x := x) fun h => d9 (by rw [← E_hs.out, ← E_s.out]; have := (rightB_out h).c9; exact this))
    have f9 : s < hs := by omega
    clear d9
    go_wp2
    go_ret
    exact ⟨by rw [F.out]; rfl, HB0w.out⟩
  go_upto_region 7 with fail
  by_cases d10 : q18 ≤ s / 4
  case neg =>
    have F := hid (right_no (x := x) fun h => d10 (by rw [← E_q18.out, ← E_s.out]; have := (rightB_out h).c10; exact this))
    have f10 : s / 4 < q18 := by omega
    clear d10
    go_wp2
    go_ret
    exact ⟨by rw [F.out]; rfl, HB0w.out⟩
  by_cases d11 : q19 ≤ s / 4
  case neg =>
    have F := hid (right_no (x := x) fun h => d11 (by rw [← E_q19.out, ← E_s.out]; have := (rightB_out h).c11; exact this))
    have f11 : s / 4 < q19 := by omega
    clear d11
    go_wp2
    go_ret
    exact ⟨by rw [F.out]; rfl, HB0w.out⟩
  by_cases d12 : q20 ≤ s / 4
  case neg =>
    have F := hid (right_no (x := x) fun h => d12 (by rw [← E_q20.out, ← E_s.out]; have := (rightB_out h).c12; exact this))
    have f12 : s / 4 < q20 := by omega
    clear d12
    go_wp2
    go_ret
    exact ⟨by rw [F.out]; rfl, HB0w.out⟩
  go_upto_region 10 with fail
  have HA : Hid (rightB x = true ∨ rightB x = false → True) := fun _ => trivial
  have HRO : Hid ((∀ j, j < n → vldB (x.f11.z j) = true) → (∀ j, j < n → x.f21.z j ≤ 1099511627776) → togB x.f12.z n 144115188075855872 = true → togB x.f14 8 144115188075855872 = true → rightB x = true) := fun h1 h2 h3 h4 => by
    refine rightB_in ⟨by rw [E_n.out]; exact d0, by rw [E_m12.out, E_n.out], by rw [E_m15.out, E_n.out], by rw [E_m16.out, E_n.out], by rw [E_m21.out, E_n.out], by rw [E_k7.out]; exact d5, by rw [E_k9.out]; exact d6, by rw [E_s.out]; exact d7, by rw [E_d.out]; exact d8, by rw [E_hs.out, E_s.out]; exact d9, by rw [E_q18.out, E_s.out]; exact d10, by rw [E_q19.out, E_s.out]; exact d11, by rw [E_q20.out, E_s.out]; exact d12, by rw [E_n.out]; exact h1, by rw [E_n.out]; exact h2, by rw [E_m12.out]; exact h3, h4⟩
  have HEL : Hid (∀ X, Below W0.heap.size W0 X → Els X x.f11.a n 86 (fun i => celL (sValidator (x.f11.z i)))) := fun X h => by
    have := (HIN.out X h).i11
    rw [E_n.out] at this
    exact this
  have HSC : Hid (∀ X, Below W0.heap.size W0 X → Z.Nms .u64 X x.f21.a n x.f21.z) := fun X h => by
    have := (HIN.out X h).i21
    rw [E_m21.out] at this
    exact this
  have HOV : Hid (∀ j, j < n → OkValidator (x.f11.z j)) := fun j hj => HX.out.o11 j (by rw [E_n.out]; exact hj)
  have HOS : Hid (∀ j, j < n → 0 ≤ x.f21.z j ∧ x.f21.z j < 18446744073709551616) := fun j hj => HX.out.o21 j (by rw [E_m21.out]; exact hj)
  have HL11 : Hid (∀ X, Below W0.heap.size W0 X → X.cell? ⟨y, 721, none⟩ = some (.slice x.f11.a n x.f11.c)) := fun X h => by have := cS11 (HRY.out X h); rw [E_n.out] at this; exact this
  have HL21 : Hid (∀ X, Below W0.heap.size W0 X → X.cell? ⟨y, 1092, none⟩ = some (.slice x.f21.a n x.f21.c)) := fun X h => by have := cS21 (HRY.out X h); rw [E_m21.out] at this; exact this
  have HL12 : Hid (∀ X, Below W0.heap.size W0 X → X.cell? ⟨y, 722, none⟩ = some (.slice x.f12.a n x.f12.c)) := fun X h => by have := cS12 (HRY.out X h); rw [E_m12.out] at this; exact this
  have C7 : Hid (∀ X, Below W0.heap.size W0 X → Calls Tryd.prog 32 #[.slice x.f12.a n x.f12.c] X fun e w' => e = .returned (.bool (togB x.f12.z n 144115188075855872)) ∧ w' = X) := fun X h => by
    have := (HIN.out X h).i12
    rw [E_m12.out] at this
    exact rsum_any x.f12.z x.f12.a n x.f12.c X this (fun j hj => HX.out.o12 j (by rw [E_m12.out]; exact hj)) (by omega)
  have C8 : Hid (∀ X, Below W0.heap.size W0 X → Calls Tryd.prog 32 #[.slice (some ⟨y, 979, none⟩) 8 8] X fun e w' => e = .returned (.bool (togB x.f14 8 144115188075855872)) ∧ w' = X) := fun X h => rsum_any x.f14 (some ⟨y, 979, none⟩) 8 8 X (seg_na (HRY.out X h)) HX.out.o14 (by omega)
  have HNO : Hid (∀ j, j < n → vldB (x.f11.z j) = false → rightB x = false) := fun j hj h => right_no (x := x) fun hr => by
    have := (rightB_out hr).cv j (by rw [E_n.out]; exact hj)
    rw [h] at this
    cases this
  have HNS : Hid (∀ j, j < n → ¬ x.f21.z j ≤ 1099511627776 → rightB x = false) := fun j hj h => right_no (x := x) fun hr => h ((rightB_out hr).cs j (by rw [E_n.out]; exact hj))
  have HN7 : Hid (togB x.f12.z n 144115188075855872 = false → rightB x = false) := fun h => right_no (x := x) fun hr => by
    have := (rightB_out hr).cb
    rw [E_m12.out, h] at this
    cases this
  have HN8 : Hid (togB x.f14 8 144115188075855872 = false → rightB x = false) := fun h => right_no (x := x) fun hr => by
    have := (rightB_out hr).cl
    rw [h] at this
    cases this
  obtain ⟨a11, ea11⟩ : ∃ a, x.f11.a = a := ⟨_, rfl⟩
  obtain ⟨c11, ec11⟩ : ∃ a, x.f11.c = a := ⟨_, rfl⟩
  obtain ⟨a21, ea21⟩ : ∃ a, x.f21.a = a := ⟨_, rfl⟩
  obtain ⟨c21, ec21⟩ : ∃ a, x.f21.c = a := ⟨_, rfl⟩
  obtain ⟨z11, ez11⟩ : ∃ a, x.f11.z = a := ⟨_, rfl⟩
  obtain ⟨z21, ez21⟩ : ∃ a, x.f21.z = a := ⟨_, rfl⟩
  obtain ⟨B7, eB7⟩ : ∃ B, togB x.f12.z n 144115188075855872 = B := ⟨_, rfl⟩
  obtain ⟨B8, eB8⟩ : ∃ B, togB x.f14 8 144115188075855872 = B := ⟨_, rfl⟩
  rw [ea11] at HEL HL11
  rw [ec11] at HL11
  rw [ea21] at HSC HL21
  rw [ec21] at HL21
  rw [ez11] at HEL HOV HNO HRO
  rw [ez21] at HSC HOS HNS HRO
  rw [eB7] at C7 HN7 HRO
  rw [eB8] at C8 HN8 HRO
  clear ea11 ec11 ea21 ec21 ez11 ez21 eB7 eB8 E_n E_m12 E_m15 E_m16 E_m21 E_k7 E_k9 E_s E_d E_hs E_q18 E_q19 E_q20 HIN
  have zv := zeroValidator
  go_loopw [5] (fun i wr => ∃ (k : Nat), k ≤ n ∧ i = .int .i64 k ∧ Below W0.heap.size W0 wr ∧ (∀ j, j < k → vldB (z11 j) = true) ∧ ∀ j, j < k → z21 j ≤ 1099511627776) (fun i _ => n - (intOf i).toNat)
  case atStart => exact ⟨0, by omega, rfl, Below.refl _ _, fun j hj => by omega, fun j hj => by omega⟩
  case round =>
    obtain ⟨k, hk, rfl, hB, hL, hS⟩ := hrel
    have HL := hid hL
    have HS := hid hS
    have HB := hid hB
    have l11 := HL11.out wr hB
    by_cases hlt : k < n
    · have b1 : decide (k < n) = true := by simp; omega
      have k1 : (k : Int) < (n : Int) := by omega
      have k2 : (0 : Int) ≤ (k : Int) := by omega
      rcases HEL.out wr hB with h | ⟨b, off, rfl, hb1, hc⟩
      · omega
      rcases HSC.out wr hB with h | ⟨b', off', rfl, hb1', hc'⟩
      · omega
      have lv := lvValidator_at (hc k hlt)
      have ix := fun W => ixValidator_run W b off n c11 k hlt
      have ixu := fun W => ixU_run W b' off' n c21 k hlt
      obtain ⟨P, eP⟩ : ∃ P, off + 86 * k = P := ⟨_, rfl⟩
      rw [eP] at lv
      simp only [eP] at ix
      have HV := hid (HOV.out k hlt)
      have hzs := HOS.out k hlt
      have HF := hid (HNO.out k hlt)
      have HFS := hid (HNS.out k hlt)
      have HT := hid (show vldB (z11 k) = true → ∀ j, j < k + 1 → vldB (z11 j) = true from fun h j hj => by
        by_cases e : j = k
        · rw [e]; exact h
        · exact HL.out j (by omega))
      have HTS := hid (show z21 k ≤ 1099511627776 → ∀ j, j < k + 1 → z21 j ≤ 1099511627776 from fun h j hj => by
        by_cases e : j = k
        · rw [e]; exact h
        · exact HS.out j (by omega))
      obtain ⟨v, ev⟩ : ∃ v, z11 k = v := ⟨_, rfl⟩
      rw [ev] at lv HV HF HT
      have sv := svValidator_newv wr oValidator v
      obtain ⟨W1, hW1⟩ : ∃ W, wr.alloc (.cells (cel (sValidator v)) 82) = W := ⟨_, rfl⟩
      rw [hW1] at sv
      have r1 : W1.heap[wr.heap.size]? = some (.cells (cel (sValidator v)) 82) := by rw [← hW1]; exact heap_new rfl
      have hB1 : Below W0.heap.size W0 W1 := by rw [← hW1]; exact hB.alloc hB.size _
      have HB1 := hid hB1
      have l21 := HL21.out W1 hB1
      have ck : W1.cell? ⟨b', off' + k, none⟩ = some (.int .u64 (z21 k)) := by
        have hb2 : Below wr.heap.size wr W1 := by rw [← hW1]; exact (Below.refl _ _).alloc (Nat.le_refl _) _
        rw [below_cell hb2 hb1']
        exact hc' k hlt
      obtain ⟨sc, esc⟩ : ∃ s, z21 k = s := ⟨_, rfl⟩
      rw [esc] at ck hzs HFS HTS
      obtain ⟨hs0, hs1⟩ := hzs
      obtain ⟨y2, ey2⟩ : ∃ y, wr.heap.size = y := ⟨_, rfl⟩
      rw [ey2] at sv r1
      have l2 := seg_nu r1 2 v.f2 rfl 80 rfl
      have l4 := seg_nu r1 4 v.f4 rfl 82 rfl
      have l5 := seg_nu r1 5 v.f5 rfl 83 rfl
      have l6 := seg_nu r1 6 v.f6 rfl 84 rfl
      have l7 := seg_nu r1 7 v.f7 rfl 85 rfl
      have hv2 := HV.out.2.2.1
      obtain ⟨hv0, hv1⟩ := hv2
      clear hL hS hB hc hb1 hc' hb1' eP ev esc hB1 r1
      by_cases d2 : v.f2 ≤ 32000000000
      · have n2 : ¬ 32000000000 < v.f2 := by omega
        by_cases d1 : v.f2 % 1000000000 = 0
        · have e1 : (v.f2 % 1000000000 != 0) = false := by simp; exact d1
          obtain ⟨g4, eg4⟩ : ∃ g, v.f4 = g := ⟨_, rfl⟩
          obtain ⟨g5, eg5⟩ : ∃ g, v.f5 = g := ⟨_, rfl⟩
          obtain ⟨g6, eg6⟩ : ∃ g, v.f6 = g := ⟨_, rfl⟩
          obtain ⟨g7, eg7⟩ : ∃ g, v.f7 = g := ⟨_, rfl⟩
          have EV := hid (show vldB v = (epB g4 && (epB g5 && (epB g6 && epB g7))) from by
            unfold vldB
            rw [eg4, eg5, eg6, eg7, decide_eq_true d1, decide_eq_true d2]
            rfl)
          rw [eg4] at l4
          rw [eg5] at l5
          rw [eg6] at l6
          rw [eg7] at l7
          clear eg4 eg5 eg6 eg7 d1 d2
          go_upto_region 13 with fail
          clear hW1 ey2
          cases pE4 : epB g4
          · have F := hid (HF.out (by rw [EV.out, pE4]; rfl))
            go_wp2_with (go_at_call 31; refine (rep_any _ _).mono ?_; rintro e w9 ⟨rfl, hw9⟩; obtain rfl := hw9.symm)
            go_ret
            exact ⟨by rw [F.out]; rfl, HB0w.out.trans (HB1.out.mono HB0w.out.size)⟩
          cases pE5 : epB g5
          · have F := hid (HF.out (by rw [EV.out, pE4, pE5]; rfl))
            go_wp2_with (go_at_call 31; refine (rep_any _ _).mono ?_; rintro e w9 ⟨rfl, hw9⟩; obtain rfl := hw9.symm)
            go_ret
            exact ⟨by rw [F.out]; rfl, HB0w.out.trans (HB1.out.mono HB0w.out.size)⟩
          cases pE6 : epB g6
          · have F := hid (HF.out (by rw [EV.out, pE4, pE5, pE6]; rfl))
            go_wp2_with (go_at_call 31; refine (rep_any _ _).mono ?_; rintro e w9 ⟨rfl, hw9⟩; obtain rfl := hw9.symm)
            go_ret
            exact ⟨by rw [F.out]; rfl, HB0w.out.trans (HB1.out.mono HB0w.out.size)⟩
          cases pE7 : epB g7
          · have F := hid (HF.out (by rw [EV.out, pE4, pE5, pE6, pE7]; rfl))
            go_wp2_with (go_at_call 31; refine (rep_any _ _).mono ?_; rintro e w9 ⟨rfl, hw9⟩; obtain rfl := hw9.symm)
            go_ret
            exact ⟨by rw [F.out]; rfl, HB0w.out.trans (HB1.out.mono HB0w.out.size)⟩
          have F := hid (HT.out (by rw [EV.out, pE4, pE5, pE6, pE7]; rfl))
          by_cases ds : sc ≤ 1099511627776
          · have FS := hid (HTS.out ds)
            have ns : ¬ 1099511627776 < sc := by omega
            go_wp2_with (go_at_call 31; refine (rep_any _ _).mono ?_; rintro e w9 ⟨rfl, hw9⟩; obtain rfl := hw9.symm)
            go_roundw
            case rel => exact ⟨k + 1, by omega, by go_num, HB1.out, F.out, FS.out⟩
            case measure => simp [intOf]; omega
          · have FS := hid (HFS.out ds)
            have ns : 1099511627776 < sc := by omega
            clear ds
            go_wp2_with (go_at_call 31; refine (rep_any _ _).mono ?_; rintro e w9 ⟨rfl, hw9⟩; obtain rfl := hw9.symm)
            go_ret
            exact ⟨by rw [FS.out]; rfl, HB0w.out.trans (HB1.out.mono HB0w.out.size)⟩
        · have e1 : (v.f2 % 1000000000 != 0) = true := by simp; exact d1
          have F := hid (HF.out (by unfold vldB; simp [d1]))
          clear d1
          go_wp2
          go_ret
          exact ⟨by rw [F.out]; rfl, HB0w.out.trans (HB1.out.mono HB0w.out.size)⟩
      · have n2 : 32000000000 < v.f2 := by omega
        have F := hid (HF.out (by unfold vldB; simp [d2]))
        clear d2
        go_wp2
        go_ret
        exact ⟨by rw [F.out]; rfl, HB0w.out.trans (HB1.out.mono HB0w.out.size)⟩
    · have b1 : decide (k < n) = false := by simp; omega
      have k1 : ¬ (k : Int) < (n : Int) := by omega
      obtain rfl : k = n := by omega
      have l12 := HL12.out wr hB
      have CC7 := hid (C7.out wr hB)
      have CC8 := hid (C8.out wr hB)
      clear hL hS hB
      cases B7
      · have F := hid (HN7.out rfl)
        go_wp2_with (go_at_call 32; refine CC7.out.mono ?_; rintro e w6 ⟨rfl, hw⟩; obtain rfl := hw.symm)
        go_ret
        exact ⟨by rw [F.out]; rfl, HB0w.out.trans (HB.out.mono HB0w.out.size)⟩
      cases B8
      · have F := hid (HN8.out rfl)
        go_wp2_with (first
          | (go_at_call 32; have k8 := K7; refine CC8.out.mono ?_; rintro e w7 ⟨rfl, hw⟩; obtain rfl := hw.symm)
          | (go_at_call 32; refine CC7.out.mono ?_; rintro e w6 ⟨rfl, hw⟩; obtain rfl := hw.symm; have K7 := True.intro))
        go_ret
        exact ⟨by rw [F.out]; rfl, HB0w.out.trans (HB.out.mono HB0w.out.size)⟩
      have F := hid (HRO.out HL.out HS.out rfl rfl)
      go_wp2_with (first
        | (go_at_call 32; have k8 := K7; refine CC8.out.mono ?_; rintro e w7 ⟨rfl, hw⟩; obtain rfl := hw.symm)
        | (go_at_call 32; refine CC7.out.mono ?_; rintro e w6 ⟨rfl, hw⟩; obtain rfl := hw.symm; have K7 := True.intro))
      go_ret
      exact ⟨by rw [F.out]; rfl, HB0w.out.trans (HB.out.mono HB0w.out.size)⟩

end Go.Proofs.YtficlakgameglaaDoor
