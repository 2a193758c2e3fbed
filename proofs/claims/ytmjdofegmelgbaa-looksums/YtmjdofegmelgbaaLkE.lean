/-
  What the document's Per, Reward and Same answer.
-/

import Derived.Test.YtmjdofegmelgbaaLkC
import Derived.Test.YtmjdofegmelgbaaLkD
namespace Go.Proofs.Ytmjdofegmelgbaa

open Go.RowKit

set_option linter.unusedVariables false

set_option linter.unusedSimpArgs false

set_option maxRecDepth 20000

attribute [local go_sem ↓] lvState_eq svState_eq bdState_eq lvValidator_eq svValidator_eq ixValidator_eq

theorem root_pos {n r : Int} (h : IsRut n r) (hn : 1000000000 ≤ n) : 31622 ≤ r := by
  obtain ⟨h0, h1, h2⟩ := h
  by_cases hr : 31622 ≤ r
  · exact hr
  · have : (r + 1) * (r + 1) ≤ 31622 * 31622 := Int.mul_le_mul (by omega) (by omega) (by omega) (by omega)
    omega

theorem root_sm {n r : Int} (h : IsRut n r) (hn : n ≤ 2097152000000000) : r ≤ 45794673 := by
  obtain ⟨h0, h1, h2⟩ := h
  by_cases hr : r ≤ 45794673
  · exact hr
  · have : 45794674 * 45794674 ≤ r * r := Int.mul_le_mul (by omega) (by omega) (by omega) (by omega)
    omega

theorem per_bd {r : Int} (h : 31622 ≤ r) : 0 ≤ 64000000000 / r ∧ 64000000000 / r ≤ 64000000000 := ⟨Int.ediv_nonneg (by omega) (by omega), Int.ediv_le_self r (by omega)⟩

set_option maxHeartbeats 2000000 in
theorem rper_any (x : VState) (r : Int) (w : World) (hx : Lk w x) (hr : IsRut (allS x) r) :
    Calls Try.prog 26 #[.agg (cel (sState x))] w fun e' w' => e' = .returned (.int .u64 (64000000000 / r)) ∧ Below w.heap.size w w' := by
  obtain ⟨W0, hW0⟩ : ∃ W, w.alloc (.cells (cel (sState x)) 49) = W := ⟨_, rfl⟩
  have r0 : W0.heap[w.heap.size]? = some (.cells (cel (sState x)) 49) := by rw [← hW0]; exact heap_new rfl
  have hB0 : Below w.heap.size w W0 := by rw [← hW0]; exact (Below.refl _ _).alloc (Nat.le_refl _) _
  have z0 : w.heap.size < W0.heap.size := (Array.getElem?_eq_some_iff.1 r0).1
  have hld : ∀ W : World, Below W0.heap.size W0 W → (lvState ⟨w.heap.size, 0, none⟩).run Try.prog W = .ok (.agg (cel (sState x))) W := fun W h => lvState_run ((h.block _ z0).trans r0)
  have hx0 := hx.below hB0
  have hal := rall_any x W0 hx0
  have hab := allS_bd x hx.nb hx.ef
  have hro : ∀ W : World, Calls Try.prog 29 #[.int .u64 (allS x)] W fun e w' => e = .returned (.int .u64 r) ∧ w' = W := fun W => by
    refine (rroot_any (allS x) W (by omega) (by omega)).mono ?_
    rintro e w' ⟨r', rfl, h, rfl⟩
    exact ⟨by rw [rut_unique hr h], rfl⟩
  have hrp := root_pos hr hab.1
  have hrs := root_sm hr hab.2
  have l0 := hld W0 (Below.refl _ _)
  generalize allS x = R at *
  have HB := hid hB0
  have HW := hid hW0
  have HAL := hid hal
  have HRO := hid hro
  clear hB0 hW0 hld hal hro hx hx0 r0 hr
  go_enter Try.func26, Try.ntmps26
  go_upto_region 1 with fail
  rw [HW.out]
  clear HW
  go_wp2_with (first
    | (go_at_call 30; refine HAL.out.mono ?_; rintro e' w1 ⟨rfl, hb1⟩)
    | (go_at_call 29; refine (HRO.out _).mono ?_; rintro e' w2 ⟨rfl, hw2⟩; obtain rfl := hw2.symm))
  go_ret
  exact ⟨ret_int (by first | rfl | (rw [IntKind.wrap_u64]; have := per_bd hrp; omega)), HB.out.trans (hb1.mono (by omega))⟩

theorem tup2 {a b : Int} (h : a = b) : Ending.returned (.tuple #[.int .u64 a, .int .i64 0]) = .returned (.tuple #[.int .u64 b, .int .i64 0]) := by rw [h]

/-- A validator's reward. -/
def rwS (x : VState) (r : Int) (i : Nat) : Int := (x.f11.z i).f2 / 1000000000 * (64000000000 / r)

set_option maxHeartbeats 1000000 in
theorem rreward_no (x : VState) (i : Int) (w : World) (hx : Lk w x) (hi : (x.f11.n : Int) ≤ i) :
    Calls Try.prog 16 #[.agg (cel (sState x)), .int .u64 i] w fun e' w' => e' = .returned (.tuple #[.int .u64 0, .int .i64 1]) ∧ Below w.heap.size w w' := by
  obtain ⟨W0, hW0⟩ : ∃ W, w.alloc (.cells (cel (sState x)) 49) = W := ⟨_, rfl⟩
  have r0 : W0.heap[w.heap.size]? = some (.cells (cel (sState x)) 49) := by rw [← hW0]; exact heap_new rfl
  have hB0 : Below w.heap.size w W0 := by rw [← hW0]; exact (Below.refl _ _).alloc (Nat.le_refl _) _
  have z0 : w.heap.size < W0.heap.size := (Array.getElem?_eq_some_iff.1 r0).1
  have hld : ∀ W : World, Below W0.heap.size W0 W → (lvState ⟨w.heap.size, 0, none⟩).run Try.prog W = .ok (.agg (cel (sState x))) W := fun W h => lvState_run ((h.block _ z0).trans r0)
  have hx0 := hx.below hB0
  have hnb := hx.nb
  have c0 := cS11 r0
  generalize x.f11.a = A at *
  generalize x.f11.n = n at *
  generalize x.f11.c = C at *
  have nw : IntKind.u64.wrap (n : Int) = (n : Int) := by rw [IntKind.wrap_u64]; omega
  have HB := hid hB0
  have HW := hid hW0
  clear hB0 hW0 hld hx hx0 r0
  go_enter Try.func16, Try.ntmps16
  go_upto_region 1 with fail
  rw [HW.out]
  clear HW
  go_wp2
  go_ret2
  exact ⟨rfl, HB.out⟩

set_option maxHeartbeats 2000000 in
theorem rreward_ok (x : VState) (r : Int) (i : Nat) (w : World) (hx : Lk w x) (hr : IsRut (allS x) r) (hi : i < x.f11.n) :
    Calls Try.prog 16 #[.agg (cel (sState x)), .int .u64 (i : Int)] w fun e' w' => e' = .returned (.tuple #[.int .u64 (rwS x r i), .int .i64 0]) ∧ Below w.heap.size w w' := by
  obtain ⟨W0, hW0⟩ : ∃ W, w.alloc (.cells (cel (sState x)) 49) = W := ⟨_, rfl⟩
  have r0 : W0.heap[w.heap.size]? = some (.cells (cel (sState x)) 49) := by rw [← hW0]; exact heap_new rfl
  have hB0 : Below w.heap.size w W0 := by rw [← hW0]; exact (Below.refl _ _).alloc (Nat.le_refl _) _
  have z0 : w.heap.size < W0.heap.size := (Array.getElem?_eq_some_iff.1 r0).1
  have hld : ∀ W : World, Below W0.heap.size W0 W → (lvState ⟨w.heap.size, 0, none⟩).run Try.prog W = .ok (.agg (cel (sState x))) W := fun W h => lvState_run ((h.block _ z0).trans r0)
  have hx0 := hx.below hB0
  have hnb := hx.nb
  have hab := allS_bd x hx.nb hx.ef
  have hrp := root_pos hr hab.1
  have hper : ∀ W : World, Below W0.heap.size W0 W → Calls Try.prog 26 #[.agg (cel (sState x))] W fun e' w' => e' = .returned (.int .u64 (64000000000 / r)) ∧ Below W.heap.size W w' := fun W h => rper_any x r W (hx0.below h) hr
  have hcs : ∀ W : World, Below W0.heap.size W0 W → W.cell? ⟨w.heap.size, 721, none⟩ = some (.slice x.f11.a x.f11.n x.f11.c) := fun W h => cS11 ((h.block _ z0).trans r0)
  have hpb := per_bd hrp
  have hef := hx.ef i hi
  have hev : rwS x r i = (x.f11.z i).f2 / 1000000000 * (64000000000 / r) := rfl
  obtain ⟨b, off, ea, hbl, hc⟩ : ∃ b off, x.f11.a = some ⟨b, off, none⟩ ∧ b < W0.heap.size ∧ ∀ j, j < x.f11.n → W0.rangeAt b (off + 86 * j) (celL (sValidator (x.f11.z j))) := by
    rcases hx0.el with h | h
    · omega
    · exact h
  have hcv := val_eff (hc i hi)
  rw [ea] at hcs
  generalize x.f11.n = n at *
  generalize x.f11.c = C at *
  obtain ⟨V, eV⟩ : ∃ V, (x.f11.z i).f2 = V := ⟨_, rfl⟩
  rw [eV] at hcv hef hev
  obtain ⟨Q, eQ⟩ : ∃ Q, 64000000000 / r = Q := ⟨_, rfl⟩
  rw [eQ] at hper hpb hev
  have ix := fun W => ixValidator_u W b off n C i hi
  obtain ⟨O, eO⟩ : ∃ P, off + 86 * i = P := ⟨_, rfl⟩
  rw [eO] at hcv
  simp only [eO] at ix
  have hvc : ∀ W : World, Below W0.heap.size W0 W → W.cell? ⟨b, O + 80, none⟩ = some (.int .u64 V) := fun W h => (below_cell h hbl).trans hcv
  have hm : V / 1000000000 * Q ≤ 32 * 64000000000 := Int.mul_le_mul (by omega) (by omega) (by omega) (by omega)
  have hm0 : 0 ≤ V / 1000000000 * Q := Int.mul_nonneg (by omega) (by omega)
  have nw : IntKind.u64.wrap (n : Int) = (n : Int) := by rw [IntKind.wrap_u64]; omega
  have wv1 : IntKind.u64.wrap (V / 1000000000) = V / 1000000000 := by rw [IntKind.wrap_u64]; omega
  have wv2 : IntKind.u64.wrap (V / 1000000000 * Q) = V / 1000000000 * Q := by rw [IntKind.wrap_u64]; omega
  have i1 : (i : Int) < (n : Int) := by omega
  have i0 : (0 : Int) ≤ (i : Int) := by omega
  have c0 := hcs W0 (Below.refl _ _)
  have hdr : Below W0.heap.size W0 W0.drew := (Below.refl _ _).drew
  have HDR := hid hdr
  have HB := hid hB0
  have HW := hid hW0
  have HLD := hid hld
  have HC := hid hcs
  have HV := hid hvc
  have IX := hid ix
  have HPER := hid hper
  have EV := hid hev
  obtain ⟨v0, v1⟩ := hef
  clear hdr hB0 hW0 hld hcs hvc ix hper hev hx hx0 r0 hr hab hcv hc ea eV eQ eO hbl
  go_enter Try.func16, Try.ntmps16
  go_upto_region 1 with fail
  rw [HW.out]
  clear HW
  go_upto_region 3 with fail
  clear c0
  refine wp_region_noPanic ?_
  refine wp_region_held_drew (S := fun W => Below W0.heap.size W0 W) (by kernel_rfl) (HDR.out) (fun hHeld => ?_)
  refine tk 0 (v := ?v11) ?y11 hHeld ?r11
  case y11 => intro w hSw; go_simp; try with_reducible rfl
  refine tk 1 (v := ?v12) ?y12 hHeld ?r12
  case y12 => intro w hSw; have ld := HC.out _ hSw; go_simp; try with_reducible rfl
  refine tk 2 (v := ?v13) ?y13 hHeld ?r13
  case y13 => intro w hSw; go_simp; try with_reducible rfl
  refine tk 3 (v := ?v14) ?y14 hHeld ?r14
  case y14 => intro w hSw; have ld := IX.out w; go_simp; try with_reducible rfl
  refine tk 4 (v := ?v15) ?y15 hHeld ?r15
  case y15 => intro w hSw; go_simp; try with_reducible rfl
  refine tk 5 (v := ?v16) ?y16 hHeld ?r16
  case y16 => intro w hSw; have ld := HV.out _ hSw; go_simp; try with_reducible rfl
  refine tk 6 (v := ?v17) ?y17 hHeld ?r17
  case y17 => intro w hSw; go_simp; try with_reducible rfl
  refine tk 7 (v := ?v18) ?y18 hHeld ?r18
  case y18 => intro w hSw; have ld := HLD.out _ hSw; go_simp; try with_reducible rfl
  try simp only [Act.put, List.setIfInBounds_toArray, List.set_cons_zero, List.set_cons_succ, Array.toArray_toList, List.getElem_toArray, List.getElem_cons_zero, List.getElem_cons_succ]
  refine wpAnyH_ready (rs := [8]) (by kernel_rfl) (by simp) ?_
  refine AllReadyH.cons rfl (fun K hK => ?_) AllReadyH.nil
  go_simp
  refine (HPER.out _ HDR.out).mono ?_
  rintro e' w1 ⟨rfl, hb1⟩
  dsimp only
  have hB1 : Below W0.heap.size W0 w1 := HDR.out.trans hb1
  refine hK.out _ _ (hB1) (fun hHeld => ?_)
  clear hK K
  try simp only [Act.put, List.setIfInBounds_toArray, List.set_cons_zero, List.set_cons_succ, Array.toArray_toList, List.getElem_toArray, List.getElem_cons_zero, List.getElem_cons_succ]
  refine tk 9 (v := ?v19) ?y19 hHeld ?r19
  case y19 => intro w hSw; go_simp; try with_reducible rfl
  refine tk 10 (v := ?v20) ?y20 hHeld ?r20
  case y20 => intro w hSw; go_simp; try with_reducible rfl
  refine tk 11 (v := ?v21) ?y21 hHeld ?r21
  case y21 => intro w hSw; go_simp; try with_reducible rfl
  try simp only [Act.put, List.setIfInBounds_toArray, List.set_cons_zero, List.set_cons_succ, Array.toArray_toList, List.getElem_toArray, List.getElem_cons_zero, List.getElem_cons_succ]
  refine wpAnyH_done (by kernel_rfl) ?_ _
  refine NoPanic.normal ?_
  go_wp2
  go_ret2
  exact ⟨tup2 (a := IntKind.u64.wrap (IntKind.u64.wrap (V.tdiv 1000000000) * Q)) (by rw [Int.tdiv_eq_ediv_of_nonneg v0, wv1, wv2, EV.out]), HB.out.trans (hB1.mono (by omega))⟩

set_option maxHeartbeats 1000000 in
theorem same_nms (a b : Option Addr) (n c d : Nat) (f : Nat → Int) (w : World) (h1 : Z.Nms .u64 w a n f) (h2 : Z.Nms .u64 w b n f) (hn : n ≤ 9223372036854775807) :
    Calls Try.prog 12 #[.slice a n c, .slice b n d] w fun e w' => e = .returned (.bool true) ∧ Below w.heap.size w w' := by
  have H1 := hid h1
  have H2 := hid h2
  clear h1 h2
  go_enter Try.func12, Try.ntmps12
  go_wp2
  go_loopw [5] (fun c wr => ∃ k : Nat, k ≤ n ∧ c = .int .i64 k ∧ Below w.heap.size w wr) (fun c _ => n - (intOf c).toNat)
  case atStart => exact ⟨0, by omega, rfl, Below.refl _ _⟩
  case round =>
    obtain ⟨k, hk, rfl, hw⟩ := hrel
    by_cases hkn : k < n
    · rcases H1.out.below hw with h0 | ⟨b1, o1, ea, hb1, hc1⟩
      · omega
      rcases H2.out.below hw with h0 | ⟨b2, o2, eb, hb2, hc2⟩
      · omega
      subst ea
      subst eb
      have k1 : (k : Int) < (n : Int) := by omega
      have k2 : (0 : Int) ≤ (k : Int) := by omega
      have c1 := hc1 k hkn
      have c2 := hc2 k hkn
      have HW := hid hw
      clear hw hb1 hb2 hc1 hc2
      go_wp2
      go_quiet (fail)
      go_wp2
      go_roundw
      case rel => exact ⟨k + 1, by omega, by go_num, below_drewN HW.out _⟩
      case measure => simp [intOf]; omega
    · have HW := hid hw
      clear hw
      go_wp2
      go_ret
      exact ⟨rfl, HW.out⟩

end Go.Proofs.Ytmjdofegmelgbaa
