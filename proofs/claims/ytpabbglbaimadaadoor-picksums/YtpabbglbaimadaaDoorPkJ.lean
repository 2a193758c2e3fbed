/-
  PickSyncs.
-/

import Derived.Test.YtpabbglbaimadaaDoorPkI
import Derived.Test.YtpabbglbaimadaaDoorPkE
import Derived.Test.YtpabbglbaimadaaDoorStY
import Derived.Test.YtpabbglbaimadaaDoorVR
namespace Go.Proofs.YtpabbglbaimadaaDoor

open Go.RowKit

set_option linter.unusedVariables false

set_option linter.unusedSimpArgs false

set_option maxRecDepth 20000

attribute [local go_sem ↓] lvState_eq svState_eq bdState_eq lvValidator_eq svValidator_eq ixValidator_eq lvCommittee_eq svCommittee_eq

/-- What the program's Next has to answer. -/
def PNext : Prop := ∀ (x : VState) (w : World), OkState x → Lk w x → Sh w → Calls Tryd.prog 14 #[.agg (cel (sState x))] w (NxA x w)

theorem nxC_ok (x : VState) (ho : OkState x) : OkCommittee (nxC x) := by
  unfold nxC
  by_cases h : syE x = 0
  · rw [if_pos h]
    rcases sy_one x with ⟨_, _, hV⟩ | ⟨h', _⟩
    · refine ⟨fun j hj => ?_, fun j _ => smV_bd ..⟩
      obtain ⟨V, e1, e2⟩ := hV (j / 48) (by omega)
      show 0 ≤ kyF x j ∧ kyF x j < 256
      unfold kyF
      rw [e1, Int.toNat_natCast]
      exact (ho.o11 V e2).1 (j % 48) (Nat.mod_lt _ (by omega))
    · omega
  · rw [if_neg h]
    exact ⟨fun _ _ => (by decide : (0 : Int) ≤ 0 ∧ (0 : Int) < 256), fun _ _ => (by decide : (0 : Int) ≤ 0 ∧ (0 : Int) < 256)⟩

theorem syL_len (x : VState) : (syL x).length ≤ 8 := by
  rcases sy_one x with ⟨_, h, _⟩ | ⟨_, h⟩
  · omega
  · rw [h]; exact Nat.zero_le _

set_option maxHeartbeats 4000000 in
theorem pickSyncs_law (pP : PProp) (pS : PSync) (pN : PNext) (x : VState) (w : World) (hx : OkState x) (hw : InW w x) (hS : Sh w) (hC : Tab w 1 64 KW) :
    Calls Tryd.prog 4 #[.agg (cel (sState x))] w fun e' w' => e' = .returned (.bool true) ∧ Below w.heap.size w w' := by
  obtain ⟨W0, hW0⟩ : ∃ W, w.alloc (.cells (cel (sState x)) 49) = W := ⟨_, rfl⟩
  have r0 : W0.heap[w.heap.size]? = some (.cells (cel (sState x)) 49) := by rw [← hW0]; exact heap_new rfl
  have hB0 : Below w.heap.size w W0 := by rw [← hW0]; exact (Below.refl _ _).alloc (Nat.le_refl _) _
  have z0 : w.heap.size < W0.heap.size := (Array.getElem?_eq_some_iff.1 r0).1
  have hld : ∀ W : World, Below W0.heap.size W0 W → (lvState ⟨w.heap.size, 0, none⟩).run Tryd.prog W = .ok (.agg (cel (sState x))) W := fun W h => lvState_run ((h.block _ z0).trans r0)
  have hw0 := hw.below hB0
  have hri : ∀ W : World, Below W0.heap.size W0 W → Calls Tryd.prog 8 #[.agg (cel (sState x))] W fun e w' => e = .returned (.bool (rightB x)) ∧ Below W.heap.size W w' := fun W h => rright_any x W hx.r' (hw0.below h).r' ⟨hx.o10.1, hx.o4.1.1, hx.o18.1.1, hx.o19.1.1, hx.o20.1.1⟩
  have hS0 := hS.below hB0
  have hC0 := hC.below hB0
  have haw := awake15 pP pS W0 hS0
  have HB := hid hB0
  have HW0 := hid hW0
  have HLD := hid hld
  have HAW := hid haw
  clear haw
  cases hR : rightB x
  · rw [hR] at hri
    have HRI := hid hri
    clear hri hB0 hW0 hld hw0 hw hx r0 hS hC hS0 hC0 pP pS pN
    go_enter Tryd.func4, Tryd.ntmps4
    go_upto_region 1 with fail
    rw [HW0.out]
    clear HW0
    go_upto_region 3 with (go_at_call 7; refine HAW.out.mono ?_; rintro e' w1 ⟨rfl, hb1⟩)
    have l1 := HLD.out w1 hb1
    go_wp2_with (go_at_call 8; refine (HRI.out w1 hb1).mono ?_; rintro e' w2 ⟨rfl, hb2⟩)
    go_ret
    exact ⟨rfl, HB.out.trans ((hb1.trans (hb2.mono hb1.size)).mono (by omega))⟩
  · rw [hR] at hri
    have hO := rightB_out hR
    have hk0 : Lk W0 x := hO.lk hx hw0
    have hps : ∀ W : World, Below W0.heap.size W0 W → Calls Tryd.prog 12 #[.agg (cel (sState x))] W fun e' w' => ∃ a c, e' = .returned (.tuple #[.slice a (syL x).length c, .int .i64 (syE x)]) ∧ Nml w' a (syL x) ∧ Below W.heap.size W w' := fun W h => pS x W hx (hk0.below h) (hS0.below h)
    have hrs : ∀ W : World, Below W0.heap.size W0 W → Calls Tryd.prog 13 #[.agg (cel (sState x))] W fun e' w' => ∃ a c, e' = .returned (.tuple #[.slice a (syL x).length c, .int .i64 (syE x)]) ∧ Nml w' a (syL x) ∧ Below W.heap.size W w' := fun W h => rsync_any x W hx (hk0.below h) (hC0.below h)
    have hpn : ∀ W : World, Below W0.heap.size W0 W → Calls Tryd.prog 14 #[.agg (cel (sState x))] W fun e' w' => e' = .returned (.tuple #[.agg (cel (sCommittee (nxC x))), .int .i64 (syE x)]) ∧ Below W.heap.size W w' := fun W h => pN x W hx (hk0.below h) (hS0.below h)
    have hrn : ∀ W : World, Below W0.heap.size W0 W → Calls Tryd.prog 15 #[.agg (cel (sState x))] W fun e' w' => e' = .returned (.tuple #[.agg (cel (sCommittee (nxC x))), .int .i64 (syE x)]) ∧ Below W.heap.size W w' := fun W h => rnext_any x W hx (hk0.below h) (hC0.below h)
    have hln := syL_len x
    have heq := fun W => eqC W (nxC x) (nxC_ok x hx)
    have zc := zeroCommittee
    have vc := fun W => svCommittee_newv W oCommittee (nxC x)
    have hsa : ∀ (W : World) a c b d, Nml W a (syL x) → Nml W b (syL x) → Calls Tryd.prog 16 #[.slice a (syL x).length c, .slice b (syL x).length d] W fun e w' => e = .returned (.bool true) ∧ Below W.heap.size W w' := fun W a c b d h1 h2 => same_true a b (syL x).length c d (fun j => (syL x).getD j 0) W h1 h2 (by omega)
    have hnl : ∀ (W W' : World) (a : Option Addr), Nml W a (syL x) → Below W.heap.size W W' → Nml W' a (syL x) := fun W W' a h hb => Z.Nms.below h hb
    have hlc : ∀ (W : World) b t, W.heap[b]? = some (.cells (cel (sCommittee (nxC x))) t) → (lvCommittee ⟨b, 0, none⟩).run Tryd.prog W = .ok (.agg (cel (sCommittee (nxC x)))) W := fun W b t h => lvC_run h
    generalize syL x = SL at hps hrs hln hsa hnl
    generalize syE x = SE at hps hrs hpn hrn
    generalize nxC x = NC at hpn hrn heq vc hlc
    obtain ⟨oc, eoc⟩ : ∃ c, oCommittee = c := ⟨_, rfl⟩
    rw [eoc] at zc vc
    obtain ⟨m, em⟩ : ∃ m, SL.length = m := ⟨_, rfl⟩
    rw [em] at hps hrs hsa
    have HRI := hid hri
    have HPS := hid hps
    have HRS := hid hrs
    have HPN := hid hpn
    have HRN := hid hrn
    have HSA := hid hsa
    have HNL := hid hnl
    have HLC := hid hlc
    clear hri hps hrs hpn hrn hsa hnl hlc hB0 hW0 hld hw0 hw hx r0 hO hk0 hR hS hC hS0 hC0 pP pS pN eoc em hln
    go_enter Tryd.func4, Tryd.ntmps4
    go_upto_region 1 with fail
    rw [HW0.out]
    clear HW0
    go_upto_region 3 with (go_at_call 7; refine HAW.out.mono ?_; rintro e' w1 ⟨rfl, hb1⟩)
    have l1 := HLD.out w1 hb1
    have HB1 := hid hb1
    clear hb1
    go_upto_region 5 with (go_at_call 8; refine (HRI.out w1 HB1.out).mono ?_; rintro e' w2 ⟨rfl, hb2⟩)
    have hw2 := HB1.out.trans (hb2.mono HB1.out.size)
    have l2 := HLD.out w2 hw2
    have HW2 := hid hw2
    clear hw2 hb2 l1 HB1
    go_upto_region 6 with (go_at_call 12; refine (HPS.out w2 HW2.out).mono ?_; rintro e' w3 ⟨a3, c3, rfl, hn3, hb3⟩)
    have hw3 := HW2.out.trans (hb3.mono HW2.out.size)
    have l3 := HLD.out w3 hw3
    have HW3 := hid hw3
    have HN3 := hid hn3
    clear hw3 hb3 l2 HW2 hn3
    go_upto_region 7 with (go_at_call 13; refine (HRS.out w3 HW3.out).mono ?_; rintro e' w4 ⟨a4, c4, rfl, hn4, hb4⟩)
    have hw4 := HW3.out.trans (hb4.mono HW3.out.size)
    have l4 := HLD.out w4 hw4
    have hn3 := HNL.out _ _ _ HN3.out hb4
    have HW4 := hid hw4
    have HN4 := hid (And.intro hn3 hn4)
    clear hw4 hb4 l3 HW3 hn4 hn3 HN3
    go_upto_region 8 with (go_at_call 14; refine (HPN.out w4 HW4.out).mono ?_; rintro e' w5 ⟨rfl, hb5⟩)
    obtain ⟨W5, hW5⟩ : ∃ W, w5.alloc (.cells (cel (sCommittee NC)) 47) = W := ⟨_, rfl⟩
    rw [hW5]
    have r5 : W5.heap[w5.heap.size]? = some (.cells (cel (sCommittee NC)) 47) := by rw [← hW5]; exact heap_new rfl
    have hg5 : Below w4.heap.size w4 W5 := by rw [← hW5]; exact hb5.alloc hb5.size _
    have hw5 := HW4.out.trans (hg5.mono HW4.out.size)
    have l5 := HLD.out W5 hw5
    obtain ⟨y5, e5⟩ : ∃ y, w5.heap.size = y := ⟨_, rfl⟩
    rw [e5] at r5 ⊢
    have HN5 := hid (And.intro (HNL.out _ _ _ HN4.out.1 hg5) (HNL.out _ _ _ HN4.out.2 hg5))
    have HW5 := hid hw5
    have R5 := hid r5
    clear hW5 hg5 hw5 r5 e5 hb5 l4 HW4 HN4
    go_upto_region 9 with (go_at_call 15; refine (HRN.out W5 HW5.out).mono ?_; rintro e' w6 ⟨rfl, hb6⟩)
    obtain ⟨W6, hW6⟩ : ∃ W, w6.alloc (.cells (cel (sCommittee NC)) 47) = W := ⟨_, rfl⟩
    rw [hW6]
    have r6 : W6.heap[w6.heap.size]? = some (.cells (cel (sCommittee NC)) 47) := by rw [← hW6]; exact heap_new rfl
    have hg6 : Below W5.heap.size W5 W6 := by rw [← hW6]; exact hb6.alloc hb6.size _
    have r5 := (hg6.block _ (Array.getElem?_eq_some_iff.1 R5.out).1).trans R5.out
    have hw6 := HW5.out.trans (hg6.mono HW5.out.size)
    obtain ⟨y6, e6⟩ : ∃ y, w6.heap.size = y := ⟨_, rfl⟩
    rw [e6] at r6 ⊢
    have HN6 := hid (And.intro (HNL.out _ _ _ HN5.out.1 hg6) (HNL.out _ _ _ HN5.out.2 hg6))
    have H6 := hid (And.intro r5 (And.intro r6 hw6))
    clear hW6 hg6 hw6 r5 r6 e6 hb6 l5 HW5 HN5 R5 zc vc HRI HPS HRS HPN HRN HAW HLD
    go_wp2_with (go_at_call 16; refine (HSA.out _ _ _ _ _ HN6.out.1 HN6.out.2).mono ?_; rintro e' w7 ⟨rfl, hb7⟩; have la := HLC.out w7 y5 _ ((hb7.block _ (Array.getElem?_eq_some_iff.1 H6.out.1).1).trans H6.out.1); have lb := HLC.out w7 y6 _ ((hb7.block _ (Array.getElem?_eq_some_iff.1 H6.out.2.1).1).trans H6.out.2.1))
    go_ret
    exact ⟨rfl, HB.out.trans ((H6.out.2.2.trans (hb7.mono H6.out.2.2.size)).mono HB.out.size)⟩

end Go.Proofs.YtpabbglbaimadaaDoor
