/-
  What the program's Churn and Reward answer.
-/

import Derived.Test.YtmjdofegmelgbaaDoorLkP
import Derived.Test.YtmjdofegmelgbaaDoorLkH
namespace Go.Proofs.YtmjdofegmelgbaaDoor

open Go.RowKit

set_option linter.unusedVariables false

set_option linter.unusedSimpArgs false

set_option maxRecDepth 20000

attribute [local go_sem ↓] lvState_eq svState_eq bdState_eq lvValidator_eq svValidator_eq ixValidator_eq

/-- What word.Root has to answer. -/
def PRoot : Prop := ∀ (n : Int) (w : World), 0 ≤ n → n < 18446744073709551616 → Calls Tryd.prog 28 #[.int .u64 n] w fun e w' => (∃ r, e = .returned (.int .u64 r) ∧ IsRut n r) ∧ w' = w

set_option maxHeartbeats 1000000 in
theorem epochOf_any (x : VState) (w : World) (h0 : 0 ≤ x.f2) (h1 : x.f2 < 1099511627776) :
    Calls Tryd.prog 18 #[.agg (cel (sState x))] w fun e' w' => e' = .returned (.int .u64 (x.f2 / 4)) ∧ Below w.heap.size w w' := by
  obtain ⟨W0, hW0⟩ : ∃ W, w.alloc (.cells (cel (sState x)) 49) = W := ⟨_, rfl⟩
  have r0 : W0.heap[w.heap.size]? = some (.cells (cel (sState x)) 49) := by rw [← hW0]; exact heap_new rfl
  have hB0 : Below w.heap.size w W0 := by rw [← hW0]; exact (Below.refl _ _).alloc (Nat.le_refl _) _
  have l2 := cS2 r0
  generalize x.f2 = p at *
  have HB := hid hB0
  have HW := hid hW0
  clear hB0 hW0 r0
  go_enter Tryd.func18, Tryd.ntmps18
  go_upto_region 1 with fail
  rw [HW.out]
  clear HW
  go_wp2
  go_ret
  exact ⟨ret_int rfl, HB.out⟩

set_option maxHeartbeats 2000000 in
theorem churn_any (x : VState) (w : World) (hx : Lk w x) :
    Calls Tryd.prog 14 #[.agg (cel (sState x))] w fun e' w' => e' = .returned (.int .u64 (chuS x)) ∧ Below w.heap.size w w' := by
  obtain ⟨W0, hW0⟩ : ∃ W, w.alloc (.cells (cel (sState x)) 49) = W := ⟨_, rfl⟩
  have r0 : W0.heap[w.heap.size]? = some (.cells (cel (sState x)) 49) := by rw [← hW0]; exact heap_new rfl
  have hB0 : Below w.heap.size w W0 := by rw [← hW0]; exact (Below.refl _ _).alloc (Nat.le_refl _) _
  have z0 : w.heap.size < W0.heap.size := (Array.getElem?_eq_some_iff.1 r0).1
  have hld : ∀ W : World, Below W0.heap.size W0 W → (lvState ⟨w.heap.size, 0, none⟩).run Tryd.prog W = .ok (.agg (cel (sState x))) W := fun W h => lvState_run ((h.block _ z0).trans r0)
  have hx0 := hx.below hB0
  have hep := fun W : World => epochOf_any x W hx.sl.1 hx.sl.2
  have hac : ∀ W : World, Below W0.heap.size W0 W → Calls Tryd.prog 27 #[.agg (cel (sState x)), .int .u64 (x.f2 / 4)] W fun e' w' => ∃ a c, e' = .returned (.slice a (acS x).length c) ∧ Nml w' a (acS x) ∧ Below W.heap.size W w' := fun W h => actives_any x (x.f2 / 4) W (hx0.below h)
  have hch : chuS x = if ((acS x).length : Int) / 32 < 2 then 2 else ((acS x).length : Int) / 32 := rfl
  have hlen : (acS x).length ≤ 65536 := Nat.le_trans (acL_len _ _ _) hx.nb
  generalize chuS x = R at *
  generalize x.f2 / 4 = E at *
  generalize (acS x) = L at *
  obtain ⟨n, hn⟩ : ∃ n, L.length = n := ⟨_, rfl⟩
  rw [hn] at hac hch hlen
  have nw : IntKind.u64.wrap (n : Int) = (n : Int) := by rw [IntKind.wrap_u64]; omega
  have n0 : (0 : Int) ≤ (n : Int) := by omega
  have n1 : (n : Int) ≤ 65536 := by omega
  have n2 : IntKind.u64.wrap ((n : Int) / 32) = (n : Int) / 32 := by rw [IntKind.wrap_u64]; omega
  have n3 : IntKind.u64.wrap ((n : Int).tdiv 32) = (n : Int) / 32 := by rw [Int.tdiv_eq_ediv_of_nonneg n0]; exact n2
  have hdr : Below W0.heap.size W0 W0.drew := (Below.refl _ _).drew
  have HDR := hid hdr
  have HB := hid hB0
  have HW := hid hW0
  have HLD := hid hld
  have HEP := hid hep
  have HAC := hid hac
  have HCH := hid hch
  clear hdr hB0 hW0 hld hep hac hx hx0 r0 hch hn
  by_cases h2 : (n : Int) / 32 < 2
  · go_enter Tryd.func14, Tryd.ntmps14
    go_upto_region 1 with fail
    rw [HW.out]
    clear HW
    refine wp_region_noPanic ?_
    refine wp_region_held_drew (S := fun W => Below W0.heap.size W0 W) (by kernel_rfl) (HDR.out) (fun hHeld => ?_)
    refine tk 0 (v := ?v11) ?y11 hHeld ?r11
    case y11 => intro w hSw; have ld := HLD.out _ hSw; go_simp; try with_reducible rfl
    refine tk 1 (v := ?v12) ?y12 hHeld ?r12
    case y12 => intro w hSw; have ld := HLD.out _ hSw; go_simp; try with_reducible rfl
    try simp only [Act.put, List.setIfInBounds_toArray, List.set_cons_zero, List.set_cons_succ, Array.toArray_toList, List.getElem_toArray, List.getElem_cons_zero, List.getElem_cons_succ]
    refine wpAnyH_ready (rs := [2]) (by kernel_rfl) (by simp) ?_
    refine AllReadyH.cons rfl (fun K hK => ?_) AllReadyH.nil
    go_simp
    refine (HEP.out _).mono ?_
    rintro e' w1 ⟨rfl, hb1⟩
    dsimp only
    have hB1 : Below W0.heap.size W0 w1 := HDR.out.trans (hb1.mono HDR.out.size)
    refine hK.out _ _ (hB1) (fun hHeld => ?_)
    clear hK K
    try simp only [Act.put, List.setIfInBounds_toArray, List.set_cons_zero, List.set_cons_succ, Array.toArray_toList, List.getElem_toArray, List.getElem_cons_zero, List.getElem_cons_succ]
    refine wpAnyH_ready (rs := [3]) (by kernel_rfl) (by simp) ?_
    refine AllReadyH.cons rfl (fun K hK => ?_) AllReadyH.nil
    go_simp
    refine (HAC.out _ hB1).mono ?_
    rintro e' w2 ⟨a2, c2, rfl, hn2, hb2⟩
    dsimp only
    have hB2 : Below W0.heap.size W0 w2 := hB1.trans (hb2.mono hB1.size)
    refine hK.out _ _ (hB2) (fun hHeld => ?_)
    clear hK K
    try simp only [Act.put, List.setIfInBounds_toArray, List.set_cons_zero, List.set_cons_succ, Array.toArray_toList, List.getElem_toArray, List.getElem_cons_zero, List.getElem_cons_succ]
    refine tk 4 (v := ?v13) ?y13 hHeld ?r13
    case y13 => intro w hSw; go_simp; try with_reducible rfl
    try simp only [Act.put, List.setIfInBounds_toArray, List.set_cons_zero, List.set_cons_succ, Array.toArray_toList, List.getElem_toArray, List.getElem_cons_zero, List.getElem_cons_succ]
    refine wpAnyH_done (by kernel_rfl) ?_ _
    refine NoPanic.normal ?_
    go_wp2
    go_ret
    exact ⟨ret_int (by rw [HCH.out]; split <;> omega), HB.out.trans (hB2.mono (by omega))⟩
  · go_enter Tryd.func14, Tryd.ntmps14
    go_upto_region 1 with fail
    rw [HW.out]
    clear HW
    refine wp_region_noPanic ?_
    refine wp_region_held_drew (S := fun W => Below W0.heap.size W0 W) (by kernel_rfl) (HDR.out) (fun hHeld => ?_)
    refine tk 0 (v := ?v501) ?y501 hHeld ?r501
    case y501 => intro w hSw; have ld := HLD.out _ hSw; go_simp; try with_reducible rfl
    refine tk 1 (v := ?v502) ?y502 hHeld ?r502
    case y502 => intro w hSw; have ld := HLD.out _ hSw; go_simp; try with_reducible rfl
    try simp only [Act.put, List.setIfInBounds_toArray, List.set_cons_zero, List.set_cons_succ, Array.toArray_toList, List.getElem_toArray, List.getElem_cons_zero, List.getElem_cons_succ]
    refine wpAnyH_ready (rs := [2]) (by kernel_rfl) (by simp) ?_
    refine AllReadyH.cons rfl (fun K hK => ?_) AllReadyH.nil
    go_simp
    refine (HEP.out _).mono ?_
    rintro e' w1 ⟨rfl, hb1⟩
    dsimp only
    have hB1 : Below W0.heap.size W0 w1 := HDR.out.trans (hb1.mono HDR.out.size)
    refine hK.out _ _ (hB1) (fun hHeld => ?_)
    clear hK K
    try simp only [Act.put, List.setIfInBounds_toArray, List.set_cons_zero, List.set_cons_succ, Array.toArray_toList, List.getElem_toArray, List.getElem_cons_zero, List.getElem_cons_succ]
    refine wpAnyH_ready (rs := [3]) (by kernel_rfl) (by simp) ?_
    refine AllReadyH.cons rfl (fun K hK => ?_) AllReadyH.nil
    go_simp
    refine (HAC.out _ hB1).mono ?_
    rintro e' w2 ⟨a2, c2, rfl, hn2, hb2⟩
    dsimp only
    have hB2 : Below W0.heap.size W0 w2 := hB1.trans (hb2.mono hB1.size)
    refine hK.out _ _ (hB2) (fun hHeld => ?_)
    clear hK K
    try simp only [Act.put, List.setIfInBounds_toArray, List.set_cons_zero, List.set_cons_succ, Array.toArray_toList, List.getElem_toArray, List.getElem_cons_zero, List.getElem_cons_succ]
    refine tk 4 (v := ?v503) ?y503 hHeld ?r503
    case y503 => intro w hSw; go_simp; try with_reducible rfl
    try simp only [Act.put, List.setIfInBounds_toArray, List.set_cons_zero, List.set_cons_succ, Array.toArray_toList, List.getElem_toArray, List.getElem_cons_zero, List.getElem_cons_succ]
    refine wpAnyH_done (by kernel_rfl) ?_ _
    refine NoPanic.normal ?_
    go_wp2
    go_ret
    exact ⟨ret_int (by rw [HCH.out]; split <;> omega), HB.out.trans (hB2.mono (by omega))⟩

set_option maxHeartbeats 2000000 in
theorem reward_ok (pRo : PRoot) (x : VState) (r : Int) (i : Nat) (w : World) (hx : Lk w x) (hr : IsRut (allS x) r) (hi : i < x.f11.n) :
    Calls Tryd.prog 12 #[.agg (cel (sState x)), .int .u64 (i : Int)] w fun e' w' => e' = .returned (.tuple #[.int .u64 (rwS x r i), .int .i64 0]) ∧ Below w.heap.size w w' := by
  obtain ⟨W0, hW0⟩ : ∃ W, w.alloc (.cells (cel (sState x)) 49) = W := ⟨_, rfl⟩
  have r0 : W0.heap[w.heap.size]? = some (.cells (cel (sState x)) 49) := by rw [← hW0]; exact heap_new rfl
  have hB0 : Below w.heap.size w W0 := by rw [← hW0]; exact (Below.refl _ _).alloc (Nat.le_refl _) _
  have z0 : w.heap.size < W0.heap.size := (Array.getElem?_eq_some_iff.1 r0).1
  have hld : ∀ W : World, Below W0.heap.size W0 W → (lvState ⟨w.heap.size, 0, none⟩).run Tryd.prog W = .ok (.agg (cel (sState x))) W := fun W h => lvState_run ((h.block _ z0).trans r0)
  have hx0 := hx.below hB0
  have hep := fun W : World => epochOf_any x W hx.sl.1 hx.sl.2
  have hac : ∀ W : World, Below W0.heap.size W0 W → Calls Tryd.prog 27 #[.agg (cel (sState x)), .int .u64 (x.f2 / 4)] W fun e' w' => ∃ a c, e' = .returned (.slice a (acS x).length c) ∧ Nml w' a (acS x) ∧ Below W.heap.size W w' := fun W h => actives_any x (x.f2 / 4) W (hx0.below h)
  have hto : ∀ (W : World) a c, Below W0.heap.size W0 W → Nml W a (acS x) → Calls Tryd.prog 26 #[.agg (cel (sState x)), .slice a (acS x).length c] W fun e' w' => e' = .returned (.int .u64 (allS x)) ∧ Below W.heap.size W w' := fun W a c h hn => total_any x a (acS x).length c (fun j => (acS x).getD j 0) W (hx0.below h) hn (acS_bd x hx.nb) (Nat.le_trans (acL_len _ _ _) hx.nb)
  have hnb := hx.nb
  have hab := allS_bd x hx.nb hx.ef
  have hrp := root_pos hr hab.1
  have hro : ∀ W : World, Calls Tryd.prog 28 #[.int .u64 (allS x)] W fun e w' => e = .returned (.int .u64 r) ∧ w' = W := fun W => by
    refine (pRo (allS x) W (by omega) (by omega)).mono ?_
    rintro e w' ⟨⟨r', rfl, h⟩, rfl⟩
    exact ⟨by rw [rut_unique hr h], rfl⟩
  have hcs : ∀ W : World, Below W0.heap.size W0 W → W.cell? ⟨w.heap.size, 721, none⟩ = some (.slice x.f11.a x.f11.n x.f11.c) := fun W h => cS11 ((h.block _ z0).trans r0)
  have hpb := per_bd hrp
  have hef := hx.ef i hi
  have hev : rwS x r i = (x.f11.z i).f2 / 1000000000 * (64000000000 / r) := rfl
  obtain ⟨b, off, ea, hbl, hc⟩ : ∃ b off, x.f11.a = some ⟨b, off, none⟩ ∧ b < W0.heap.size ∧ ∀ j, j < x.f11.n → W0.rangeAt b (off + 86 * j) (celL (sValidator (x.f11.z j))) := by
    rcases hx0.el with h | h
    · omega
    · exact h
  have hcv := val_eff (hc i hi)
  rw [ea] at hcs
  generalize allS x = AL at *
  generalize x.f2 / 4 = E at *
  generalize (acS x) = L at *
  obtain ⟨n, hxn⟩ : ∃ n, x.f11.n = n := ⟨_, rfl⟩
  rw [hxn] at hcs hc hi hnb
  generalize x.f11.c = C at *
  obtain ⟨V, eV⟩ : ∃ V, (x.f11.z i).f2 = V := ⟨_, rfl⟩
  rw [eV] at hcv hef hev
  obtain ⟨Q, eQ⟩ : ∃ Q, 64000000000 / r = Q := ⟨_, rfl⟩
  have eQ' : IntKind.u64.wrap ((64000000000 : Int).tdiv r) = Q := by rw [Int.tdiv_eq_ediv_of_nonneg (by omega), eQ, IntKind.wrap_u64]; rw [eQ] at hpb; omega
  rw [eQ] at hpb hev
  have ix := fun W => ixValidator_u W b off n C i hi
  obtain ⟨O, eO⟩ : ∃ P, off + 86 * i = P := ⟨_, rfl⟩
  rw [eO] at hcv
  simp only [eO] at ix
  have hvc : ∀ W : World, Below W0.heap.size W0 W → W.cell? ⟨b, O + 80, none⟩ = some (.int .u64 V) := fun W h => (below_cell h hbl).trans hcv
  have hm : V / 1000000000 * Q ≤ 32 * 64000000000 := Int.mul_le_mul (by omega) (by omega) (by omega) (by omega)
  have hm0 : 0 ≤ V / 1000000000 * Q := Int.mul_nonneg (by omega) (by omega)
  have nw : IntKind.u64.wrap (n : Int) = (n : Int) := by rw [IntKind.wrap_u64]; omega
  have wv1 : IntKind.u64.wrap (V / 1000000000) = V / 1000000000 := by rw [IntKind.wrap_u64]; omega
  have wv2 : IntKind.u64.wrap (V / 1000000000 * Q) = V / 1000000000 * Q := by rw [IntKind.wrap_u64]; omega
  have i1 : (i : Int) < (n : Int) := by omega
  have i0 : (0 : Int) ≤ (i : Int) := by omega
  have rz : (r == 0) = false := by simp; omega
  have rz' : ¬ r = 0 := by omega
  have his := fun W : World => isThere_any x i W hx.nb
  rw [hxn, show decide ((i : Int) < (n : Int)) = true by simp [i1]] at his
  have l0 := hld W0 (Below.refl _ _)
  have HIS := hid his
  have HB := hid hB0
  have HW := hid hW0
  have HLD := hid hld
  have HEP := hid hep
  have HAC := hid hac
  have HTO := hid hto
  have HC := hid hcs
  have HV := hid hvc
  have HRO := hid hro
  have EV := hid hev
  have EQ := hid eQ
  obtain ⟨v0, v1⟩ := hef
  clear his hxn hB0 hW0 hld hep hac hto hcs hvc hro hev hx hx0 r0 hr hab hcv hc ea eV eQ eQ' eO hbl
  go_enter Tryd.func12, Tryd.ntmps12
  go_upto_region 1 with fail
  rw [HW.out]
  clear HW
  go_upto_region 3 with (go_at_call 25; refine (HIS.out _).mono ?_; rintro e' w0 ⟨rfl, hb0⟩)
  clear l0
  have hdr : Below W0.heap.size W0 w0.drew := hb0.drew
  have HDR := hid hdr
  clear hdr hb0
  refine wp_region_noPanic ?_
  refine wp_region_held_drew (S := fun W => Below W0.heap.size W0 W) (by kernel_rfl) (HDR.out) (fun hHeld => ?_)
  refine tk 0 (v := ?v14) ?y14 hHeld ?r14
  case y14 => intro w hSw; have ld := HLD.out _ hSw; go_simp; try with_reducible rfl
  refine tk 1 (v := ?v15) ?y15 hHeld ?r15
  case y15 => intro w hSw; have ld := HLD.out _ hSw; go_simp; try with_reducible rfl
  refine tk 2 (v := ?v16) ?y16 hHeld ?r16
  case y16 => intro w hSw; have ld := HLD.out _ hSw; go_simp; try with_reducible rfl
  try simp only [Act.put, List.setIfInBounds_toArray, List.set_cons_zero, List.set_cons_succ, Array.toArray_toList, List.getElem_toArray, List.getElem_cons_zero, List.getElem_cons_succ]
  refine wpAnyH_ready (rs := [3]) (by kernel_rfl) (by simp) ?_
  refine AllReadyH.cons rfl (fun K hK => ?_) AllReadyH.nil
  go_simp
  refine (HEP.out _).mono ?_
  rintro e' w1 ⟨rfl, hb1⟩
  dsimp only
  have hB1 : Below W0.heap.size W0 w1 := HDR.out.trans (hb1.mono HDR.out.size)
  refine hK.out _ _ (hB1) (fun hHeld => ?_)
  clear hK K
  try simp only [Act.put, List.setIfInBounds_toArray, List.set_cons_zero, List.set_cons_succ, Array.toArray_toList, List.getElem_toArray, List.getElem_cons_zero, List.getElem_cons_succ]
  refine wpAnyH_ready (rs := [4]) (by kernel_rfl) (by simp) ?_
  refine AllReadyH.cons rfl (fun K hK => ?_) AllReadyH.nil
  go_simp
  refine (HAC.out _ hB1).mono ?_
  rintro e' w2 ⟨a2, c2, rfl, hn2, hb2⟩
  dsimp only
  have hB2 : Below W0.heap.size W0 w2 := hB1.trans (hb2.mono hB1.size)
  refine hK.out _ _ (hB2) (fun hHeld => ?_)
  clear hK K
  try simp only [Act.put, List.setIfInBounds_toArray, List.set_cons_zero, List.set_cons_succ, Array.toArray_toList, List.getElem_toArray, List.getElem_cons_zero, List.getElem_cons_succ]
  refine wpAnyH_ready (rs := [5]) (by kernel_rfl) (by simp) ?_
  refine AllReadyH.cons rfl (fun K hK => ?_) AllReadyH.nil
  go_simp
  refine (HTO.out _ a2 c2 hB2 hn2).mono ?_
  rintro e' w3 ⟨rfl, hb3⟩
  dsimp only
  have hB3 : Below W0.heap.size W0 w3 := hB2.trans (hb3.mono hB2.size)
  refine hK.out _ _ (hB3) (fun hHeld => ?_)
  clear hK K
  try simp only [Act.put, List.setIfInBounds_toArray, List.set_cons_zero, List.set_cons_succ, Array.toArray_toList, List.getElem_toArray, List.getElem_cons_zero, List.getElem_cons_succ]
  refine tk 6 (v := ?v17) ?y17 hHeld ?r17
  case y17 => intro w hSw; go_simp; try with_reducible rfl
  try simp only [Act.put, List.setIfInBounds_toArray, List.set_cons_zero, List.set_cons_succ, Array.toArray_toList, List.getElem_toArray, List.getElem_cons_zero, List.getElem_cons_succ]
  refine wpAnyH_done (by kernel_rfl) ?_ _
  refine NoPanic.normal ?_
  have HW3 := hid hB3
  clear hB1 hB2 hB3 hb1 hb2 hb3 hn2 hHeld HDR HEP HAC HTO
  go_upto_region 5 with (go_at_call 28; refine (HRO.out _).mono ?_; rintro e' w5 ⟨rfl, hw5⟩)
  subst hw5
  have c5 := HC.out _ HW3.out
  have v5 := HV.out _ HW3.out
  rw [EQ.out]
  clear EQ
  go_wp2
  go_ret2
  exact ⟨tup2 (by rw [EV.out]), HB.out.trans (HW3.out.mono (by omega))⟩

end Go.Proofs.YtmjdofegmelgbaaDoor
