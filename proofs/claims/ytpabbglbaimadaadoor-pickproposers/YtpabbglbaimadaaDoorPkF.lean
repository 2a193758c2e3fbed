/-
  PickProposers.
-/

import Derived.Test.YtpabbglbaimadaaDoorPkE
import Derived.Test.YtpabbglbaimadaaDoorStY
namespace Go.Proofs.YtpabbglbaimadaaDoor

open Go.RowKit

set_option linter.unusedVariables false

set_option linter.unusedSimpArgs false

set_option maxRecDepth 20000

attribute [local go_sem ↓] lvState_eq svState_eq bdState_eq lvValidator_eq svValidator_eq ixValidator_eq

set_option maxHeartbeats 4000000 in
theorem pickProposers_law (pP : PProp) (pS : PSync) (x : VState) (w : World) (hx : OkState x) (hw : InW w x) (hS : Sh w) (hC : Tab w 1 64 KW) :
    Calls Tryd.prog 3 #[.agg (cel (sState x))] w fun e' w' => e' = .returned (.bool true) ∧ Below w.heap.size w w' := by
  obtain ⟨W0, hW0⟩ : ∃ W, w.alloc (.cells (cel (sState x)) 49) = W := ⟨_, rfl⟩
  have r0 : W0.heap[w.heap.size]? = some (.cells (cel (sState x)) 49) := by rw [← hW0]; exact heap_new rfl
  have hB0 : Below w.heap.size w W0 := by rw [← hW0]; exact (Below.refl _ _).alloc (Nat.le_refl _) _
  have z0 : w.heap.size < W0.heap.size := (Array.getElem?_eq_some_iff.1 r0).1
  have hld : ∀ W : World, Below W0.heap.size W0 W → (lvState ⟨w.heap.size, 0, none⟩).run Tryd.prog W = .ok (.agg (cel (sState x))) W := fun W h => lvState_run ((h.block _ z0).trans r0)
  have hw0 := hw.below hB0
  have hri : ∀ W : World, Below W0.heap.size W0 W → Calls Tryd.prog 8 #[.agg (cel (sState x))] W fun e w' => e = .returned (.bool (rightB x)) ∧ Below W.heap.size W w' := fun W h => rright_any x W hx.r' (hw0.below h).r' ⟨hx.o10.1, hx.o4.1.1, hx.o18.1.1, hx.o19.1.1, hx.o20.1.1⟩
  have hS0 := hS.below hB0
  have hC0 := hC.below hB0
  have haw := awake15 pP pS W0 hS0
  have HB := hid hB0
  have HW0 := hid hW0
  have HLD := hid hld
  have HAW := hid haw
  clear haw
  cases hR : rightB x
  · rw [hR] at hri
    have HRI := hid hri
    clear hri hB0 hW0 hld hw0 hw hx r0 hS hC hS0 hC0 pP pS
    go_enter Tryd.func3, Tryd.ntmps3
    go_upto_region 1 with fail
    rw [HW0.out]
    clear HW0
    go_upto_region 3 with (go_at_call 7; refine HAW.out.mono ?_; rintro e' w1 ⟨rfl, hb1⟩)
    have l1 := HLD.out w1 hb1
    go_wp2_with (go_at_call 8; refine (HRI.out w1 hb1).mono ?_; rintro e' w2 ⟨rfl, hb2⟩)
    go_ret
    exact ⟨rfl, HB.out.trans ((hb1.trans (hb2.mono hb1.size)).mono (by omega))⟩
  · rw [hR] at hri
    have hO := rightB_out hR
    have hk0 : Lk W0 x := hO.lk hx hw0
    have hpp : ∀ W : World, Below W0.heap.size W0 W → Calls Tryd.prog 9 #[.agg (cel (sState x))] W fun e' w' => e' = .returned (.tuple #[.int .u64 (prV x), .int .i64 (prE x)]) ∧ Below W.heap.size W w' := fun W h => pP x W hx (hk0.below h) (hS0.below h)
    have hrp : ∀ W : World, Below W0.heap.size W0 W → Calls Tryd.prog 10 #[.agg (cel (sState x))] W fun e' w' => e' = .returned (.tuple #[.int .u64 (prV x), .int .i64 (prE x)]) ∧ Below W.heap.size W w' := fun W h => rprop_any x W hx (hk0.below h) (hC0.below h)
    have hd1 := dw_one x.f11.z (acE x (x.f2 / 4)) (prS x) 1
    have hm : prE x = 0 → ∃ V : Nat, prV x = (V : Int) ∧ V < x.f11.n ∧ actB (x.f11.z V) (x.f2 / 4) = true := fun h => by
      rcases hd1 with ⟨_, h2, h3⟩ | ⟨h2, _⟩
      · have h4 := h3 _ (getD_mem (prL x) 0 (by show 0 < (dwL x.f11.z (acE x (x.f2 / 4)) (prS x) 1).length; omega))
        obtain ⟨q0, q1, q2⟩ := (acL_mem _ _ _ _).1 h4
        exact ⟨((prL x).getD 0 0).toNat, by show (prL x).getD 0 0 = _; omega, by omega, q2⟩
      · have : prE x = 7 := h2
        omega
    have hE : prE x = 0 ∨ prE x = 7 := by
      rcases hd1 with ⟨h, _⟩ | ⟨h, _⟩
      · exact .inl h
      · exact .inr h
    have hc7 : ∀ W : World, Below W0.heap.size W0 W → W.cell? ⟨w.heap.size, 721, none⟩ = some (.slice x.f11.a x.f11.n x.f11.c) := fun W h => cS11 ((h.block _ z0).trans r0)
    have hc2 : ∀ W : World, Below W0.heap.size W0 W → W.cell? ⟨w.heap.size, 33, none⟩ = some (.int .u64 x.f2) := fun W h => cS2 ((h.block _ z0).trans r0)
    have hel := hk0.el
    have hsl := hk0.sl
    have hact := fun (k : Nat) (W : World) => ractive_any (x.f11.z k) (x.f2 / 4) W
    generalize prV x = PV at hpp hrp hm
    generalize prE x = PE at hpp hrp hm hE
    generalize x.f11.a = A at hc7 hel
    generalize x.f11.n = n at hc7 hel hm
    generalize x.f11.c = C at hc7
    generalize x.f11.z = z at hel hm hact
    have HRI := hid hri
    have HPP := hid hpp
    have HRP := hid hrp
    have HC7 := hid hc7
    have HC2 := hid hc2
    have HEL := hid hel
    have HM := hid hm
    have HACT := hid hact
    clear hri hpp hrp hc7 hc2 hel hm hact hB0 hW0 hld hw0 hw hx r0 hO hk0 hR hS hC hS0 hC0 hd1 pP pS
    go_enter Tryd.func3, Tryd.ntmps3
    go_upto_region 1 with fail
    rw [HW0.out]
    clear HW0
    go_upto_region 3 with (go_at_call 7; refine HAW.out.mono ?_; rintro e' w1 ⟨rfl, hb1⟩)
    have l1 := HLD.out w1 hb1
    have HB1 := hid hb1
    clear hb1
    go_upto_region 5 with (go_at_call 8; refine (HRI.out w1 HB1.out).mono ?_; rintro e' w2 ⟨rfl, hb2⟩)
    have hw2 := HB1.out.trans (hb2.mono HB1.out.size)
    have l2 := HLD.out w2 hw2
    have HW2 := hid hw2
    clear hw2 hb2 l1 HB1
    go_upto_region 6 with (go_at_call 9; refine (HPP.out w2 HW2.out).mono ?_; rintro e' w3 ⟨rfl, hb3⟩)
    have hw3 := HW2.out.trans (hb3.mono HW2.out.size)
    have l3 := HLD.out w3 hw3
    have HW3 := hid hw3
    clear hw3 hb3 l2 HW2
    go_upto_region 7 with (go_at_call 10; refine (HRP.out w3 HW3.out).mono ?_; rintro e' w4 ⟨rfl, hb4⟩)
    have hw4 := HW3.out.trans (hb4.mono HW3.out.size)
    have hdr : Below W0.heap.size W0 w4.drew := hw4.drew
    have HDR := hid hdr
    clear hdr hw4 hb4 l3 HW3 HRI HPP HRP HAW HLD
    rcases hE with hE | hE
    · obtain ⟨V, hV, hVn, hVa⟩ := HM.out hE
      rcases HEL.out with h0 | ⟨b, off, ea, hbl, hc⟩
      · omega
      subst hE hV ea
      have hlv : ∀ W : World, Below W0.heap.size W0 W → (lvValidator ⟨b, off + 86 * V, none⟩).run Tryd.prog W = .ok (.agg (cel (sValidator (z V)))) W := fun W h => lvValidator_at (rangeAt_below (hc V hVn) hbl h)
      have hix := fun W => ixValidator_u W b off n C V hVn
      have hac := HACT.out V
      rw [hVa] at hac
      have s0 : (0 : Int) ≤ x.f2 := hsl.1
      have s1 : x.f2 < 1099511627776 := hsl.2
      have dq : x.f2.tdiv 4 = x.f2 / 4 := Int.tdiv_eq_ediv_of_nonneg s0
      have dw : IntKind.u64.wrap (x.f2 / 4) = x.f2 / 4 := by rw [IntKind.wrap_u64]; omega
      obtain ⟨E, eE⟩ : ∃ E, x.f2 / 4 = E := ⟨_, rfl⟩
      rw [eE] at hac dq dw
      clear eE
      have HLV := hid hlv
      have HIX := hid hix
      have HAC := hid hac
      clear hlv hix hac hc hbl HACT HM HEL hVa hsl
      refine wp_region_noPanic ?_
      refine wp_region_held_drew (S := fun W => Below W0.heap.size W0 W) (by kernel_rfl) (HDR.out) (fun hHeld => ?_)
      refine tk 0 (v := ?v701) ?y701 hHeld ?r701
      case y701 => intro w hSw; go_simp; try with_reducible rfl
      refine tk 1 (v := ?v702) ?y702 hHeld ?r702
      case y702 => intro w hSw; go_simp; try with_reducible rfl
      refine tk 2 (v := ?v703) ?y703 hHeld ?r703
      case y703 => intro w hSw; go_simp; try with_reducible rfl
      refine tk 3 (v := ?v704) ?y704 hHeld ?r704
      case y704 => intro w hSw; go_simp; try with_reducible rfl
      refine tk 4 (v := ?v705) ?y705 hHeld ?r705
      case y705 => intro w hSw; go_simp; try with_reducible rfl
      refine tk 5 (v := ?v706) ?y706 hHeld ?r706
      case y706 => intro w hSw; go_simp; try with_reducible rfl
      refine tk 6 (v := ?v707) ?y707 hHeld ?r707
      case y707 => intro w hSw; go_simp; try with_reducible rfl
      refine tk 7 (v := ?v708) ?y708 hHeld ?r708
      case y708 => intro w hSw; go_simp; try with_reducible rfl
      refine tk 8 (v := ?v709) ?y709 hHeld ?r709
      case y709 => intro w hSw; go_simp; try with_reducible rfl
      refine tk 9 (v := ?v710) ?y710 hHeld ?r710
      case y710 => intro w hSw; go_simp; try with_reducible rfl
      refine tk 10 (v := ?v711) ?y711 hHeld ?r711
      case y711 => intro w hSw; go_simp; try with_reducible rfl
      refine tk 11 (v := ?v712) ?y712 hHeld ?r712
      case y712 => intro w hSw; go_simp; try with_reducible rfl
      refine tk 12 (v := ?v713) ?y713 hHeld ?r713
      case y713 => intro w hSw; go_simp; try with_reducible rfl
      refine tk 13 (v := ?v714) ?y714 hHeld ?r714
      case y714 => intro w hSw; have ld := HC7.out _ hSw; go_simp; try with_reducible rfl
      refine tk 14 (v := ?v715) ?y715 hHeld ?r715
      case y715 => intro w hSw; go_simp; try with_reducible rfl
      refine tk 15 (v := ?v716) ?y716 hHeld ?r716
      case y716 => intro w hSw; have ld := HIX.out w; go_simp; try with_reducible rfl
      refine tk 16 (v := ?v717) ?y717 hHeld ?r717
      case y717 => intro w hSw; have ld := HLV.out _ hSw; go_simp; try with_reducible rfl
      refine tk 17 (v := ?v718) ?y718 hHeld ?r718
      case y718 => intro w hSw; go_simp; try with_reducible rfl
      refine tk 18 (v := ?v719) ?y719 hHeld ?r719
      case y719 => intro w hSw; have ld := HC2.out _ hSw; go_simp; try with_reducible rfl
      refine tk 19 (v := ?v720) ?y720 hHeld ?r720
      case y720 => intro w hSw; go_simp; try with_reducible rfl
      try simp only [Act.put, List.setIfInBounds_toArray, List.set_cons_zero, List.set_cons_succ, Array.toArray_toList, List.getElem_toArray, List.getElem_cons_zero, List.getElem_cons_succ]
      refine wpAnyH_ready (rs := [20]) (by kernel_rfl) (by simp) ?_
      refine AllReadyH.cons rfl (fun K hK => ?_) AllReadyH.nil
      go_simp
      refine (HAC.out _).mono ?_
      rintro e' w5 ⟨rfl, hb5⟩
      dsimp only
      have hB5 : Below W0.heap.size W0 w5 := HDR.out.trans (hb5.mono HDR.out.size)
      refine hK.out _ _ (hB5) (fun hHeld => ?_)
      clear hK K
      try simp only [Act.put, List.setIfInBounds_toArray, List.set_cons_zero, List.set_cons_succ, Array.toArray_toList, List.getElem_toArray, List.getElem_cons_zero, List.getElem_cons_succ]
      refine tk 21 (v := ?v721) ?y721 hHeld ?r721
      case y721 => intro w hSw; go_simp; try with_reducible rfl
      refine tk 22 (v := ?v722) ?y722 hHeld ?r722
      case y722 => intro w hSw; go_simp; try with_reducible rfl
      refine tk 23 (v := ?v723) ?y723 hHeld ?r723
      case y723 => intro w hSw; go_simp; try with_reducible rfl
      try simp only [Act.put, List.setIfInBounds_toArray, List.set_cons_zero, List.set_cons_succ, Array.toArray_toList, List.getElem_toArray, List.getElem_cons_zero, List.getElem_cons_succ]
      refine wpAnyH_done (by kernel_rfl) ?_ _
      refine NoPanic.normal ?_
      go_wp2
      go_ret
      exact ⟨rfl, HB.out.trans (hB5.mono HB.out.size)⟩
    · subst hE
      clear HACT HM HEL HC7 HC2
      refine wp_region_noPanic ?_
      refine wp_region_held_drew (S := fun W => Below W0.heap.size W0 W) (by kernel_rfl) (HDR.out) (fun hHeld => ?_)
      refine tk 0 (v := ?v724) ?y724 hHeld ?r724
      case y724 => intro w hSw; go_simp; try with_reducible rfl
      refine tk 1 (v := ?v725) ?y725 hHeld ?r725
      case y725 => intro w hSw; go_simp; try with_reducible rfl
      refine tk 2 (v := ?v726) ?y726 hHeld ?r726
      case y726 => intro w hSw; go_simp; try with_reducible rfl
      refine tk 3 (v := ?v727) ?y727 hHeld ?r727
      case y727 => intro w hSw; go_simp; try with_reducible rfl
      refine tk 4 (v := ?v728) ?y728 hHeld ?r728
      case y728 => intro w hSw; go_simp; try with_reducible rfl
      refine tk 5 (v := ?v729) ?y729 hHeld ?r729
      case y729 => intro w hSw; go_simp; try with_reducible rfl
      refine tk 6 (v := ?v730) ?y730 hHeld ?r730
      case y730 => intro w hSw; go_simp; try with_reducible rfl
      refine tk 7 (v := ?v731) ?y731 hHeld ?r731
      case y731 => intro w hSw; go_simp; try with_reducible rfl
      refine tk 8 (v := ?v732) ?y732 hHeld ?r732
      case y732 => intro w hSw; go_simp; try with_reducible rfl
      refine tk 9 (v := ?v733) ?y733 hHeld ?r733
      case y733 => intro w hSw; go_simp; try with_reducible rfl
      refine tk 10 (v := ?v734) ?y734 hHeld ?r734
      case y734 => intro w hSw; go_simp; try with_reducible rfl
      refine tk 11 (v := ?v735) ?y735 hHeld ?r735
      case y735 => intro w hSw; go_simp; try with_reducible rfl
      refine tl 12 hHeld ?_
      refine tl 13 hHeld ?_
      refine tl 14 hHeld ?_
      refine tl 15 hHeld ?_
      refine tl 16 hHeld ?_
      refine tl 17 hHeld ?_
      refine tl 18 hHeld ?_
      refine tl 19 hHeld ?_
      refine tl 20 hHeld ?_
      refine tk 21 (v := ?v736) ?y736 hHeld ?r736
      case y736 => intro w hSw; go_simp; try with_reducible rfl
      refine tk 22 (v := ?v737) ?y737 hHeld ?r737
      case y737 => intro w hSw; go_simp; try with_reducible rfl
      refine tk 23 (v := ?v738) ?y738 hHeld ?r738
      case y738 => intro w hSw; go_simp; try with_reducible rfl
      try simp only [Act.put, List.setIfInBounds_toArray, List.set_cons_zero, List.set_cons_succ, Array.toArray_toList, List.getElem_toArray, List.getElem_cons_zero, List.getElem_cons_succ]
      refine wpAnyH_done (by kernel_rfl) ?_ _
      refine NoPanic.normal ?_
      go_wp2
      go_ret
      exact ⟨rfl, HB.out.trans (HDR.out.mono HB.out.size)⟩

end Go.Proofs.YtpabbglbaimadaaDoor
