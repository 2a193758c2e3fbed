/-
  The program's ifRight, slashAll, Leave and Slash.
  SlashLeaves.
  SlashQueue.
-/
import Derived.Test.YtmapeodhcllimaaDoorSlP
import Derived.Test.YtmapeodhcllimaaDoorQL
import Derived.Test.YtmapeodhcllimaaDoorQI
import Derived.Test.YtmapeodhcllimaaDoorPkB
import Derived.Test.YtmapeodhcllimaaDoorQC
import Derived.Test.YtmapeodhcllimaaDoorQD
import Derived.Test.YtmapeodhcllimaaDoorQG
import Derived.Test.YtmapeodhcllimaaDoorQF
import Derived.Test.YtmapeodhcllimaaDoorQA
import Derived.Test.YtmapeodhcllimaaDoorStY
import Derived.Test.YtmapeodhcllimaaDoorQE
namespace Go.Proofs.YtmapeodhcllimaaDoor

open Go.RowKit

set_option linter.unusedVariables false

set_option linter.unusedSimpArgs false

set_option maxRecDepth 20000

theorem lnsS_sim {X Y : VState} (h : SimF X Y) (hl : Lns X) : Lns Y := by unfold Lns at hl ⊢; rw [h.l11, h.l21, h.l12]; exact hl

theorem lns_lv {x : VState} (h : Lns x) (i : Nat) : Lns (lvS x i) := by
  unfold lvS
  split <;> exact h

attribute [local go_sem ↓] lvState_eq svState_eq bdState_eq ixU_eq

set_option maxHeartbeats 4000000 in
theorem ifRight_any (x : VState) (w : World) (hx : OkState x) (hw : InW w x) (hl : Lns x) :
    Calls Tryd.prog 55 #[.agg (cel (sState x))] w fun e' w' => e' = .returned (.tuple #[.agg (cel (sState (dnS x 0))), .int .i64 (dnE x 0)]) ∧ Below w.heap.size w w' := by
  obtain ⟨W0, hW0⟩ : ∃ W, (w.alloc (.cells (cel (sState x)) 49)).alloc (.cells (cel (sState oState)) 49) = W := ⟨_, rfl⟩
  have r0 : W0.heap[w.heap.size]? = some (.cells (cel (sState x)) 49) := by rw [← hW0]; exact (heap_old (by simp)).trans (heap_new rfl)
  have r1 : W0.heap[w.heap.size + 1]? = some (.cells (cel (sState oState)) 49) := by rw [← hW0]; exact heap_new (by simp)
  have hB0 : Up w W0 := by rw [← hW0]; exact ((Below.refl _ _).alloc (Nat.le_refl _) _).alloc (by simp) _
  have hri := right_any x W0 hx.r' (hw.below hB0).r' hl
  have lx := lvState_run r0
  have z := zeroState
  have bz := bdState_0
  have HB := hid hB0
  have HW := hid hW0
  have R0 := hid r0
  have R1 := hid r1
  have HRI := hid hri
  clear hri hB0 hW0 r0 r1 hx hw
  cases hR : rightB x
  · rw [hR] at HRI
    have eE : dnE x 0 = 2 := by unfold dnE; rw [hR]; rfl
    have eS : dnS x 0 = oState := by unfold dnS; rw [eE]; rfl
    rw [eE, eS]
    clear eE eS hR R0
    go_enter Tryd.func55, Tryd.ntmps55
    go_upto_region 1 with fail
    rw [HW.out]
    clear HW z
    go_wp2_with (go_at_call 13; refine HRI.out.mono ?_; rintro e' w1 ⟨rfl, hb1⟩; have s1 := svState_run (upR hb1 R1.out) oState)
    exact retState 2 3 (w.heap.size + 1) oState 49 (.int .i64 2) rfl rfl rfl rfl (setRow_at (upR hb1 R1.out)) ⟨rfl, below_row (upT HB.out hb1) (by omega) _⟩
  · rw [hR] at HRI
    have eE : dnE x 0 = 0 := by unfold dnE; rw [hR]; rfl
    have eS : dnS x 0 = x := by unfold dnS; rw [eE]; rfl
    rw [eE, eS]
    clear eE eS hR
    go_enter Tryd.func55, Tryd.ntmps55
    go_upto_region 1 with fail
    rw [HW.out]
    clear HW z
    go_wp2_with (go_at_call 13; refine HRI.out.mono ?_; rintro e' w1 ⟨rfl, hb1⟩; have lx1 := lvState_run (upR hb1 R0.out); have s1 := svState_run (upR hb1 R1.out) x)
    exact retState 2 3 (w.heap.size + 1) x 49 (.int .i64 0) rfl rfl rfl rfl (setRow_at (upR hb1 R1.out)) ⟨rfl, below_row (upT HB.out hb1) (by omega) _⟩

set_option maxHeartbeats 8000000 in
theorem leave_prog (x : VState) (i : Int) (w : World) (hx : OkState x) (hw : InW w x) (hn : NilW x) (hl : Lns x) (h0 : 0 ≤ i) :
    Calls Tryd.prog 21 #[.agg (cel (sState x)), .int .u64 i] w fun e' w' => ∃ X, e' = .returned (.tuple #[.agg (cel (sState X)), .int .i64 (lqE x i)]) ∧ Res w.heap.size w' (lqS x i) X ∧ Below w.heap.size w w' := by
  obtain ⟨W0, hW0⟩ : ∃ W, (w.alloc (.cells (cel (sState x)) 49)).alloc (.cells (cel (sState oState)) 49) = W := ⟨_, rfl⟩
  have r0 : W0.heap[w.heap.size]? = some (.cells (cel (sState x)) 49) := by rw [← hW0]; exact (heap_old (by simp)).trans (heap_new rfl)
  have r1 : W0.heap[w.heap.size + 1]? = some (.cells (cel (sState oState)) 49) := by rw [← hW0]; exact heap_new (by simp)
  have hB0 : Up w W0 := by rw [← hW0]; exact ((Below.refl _ _).alloc (Nat.le_refl _) _).alloc (by simp) _
  have hri := right_any x W0 hx.r' (hw.below hB0).r' hl
  have lx := lvState_run r0
  have z := zeroState
  have bz := bdState_0
  have HB := hid hB0
  have HW := hid hW0
  have R0 := hid r0
  have R1 := hid r1
  cases hR : rightB x
  · rw [hR] at hri
    have HRI := hid hri
    have eE : lqE x i = 1 := by unfold lqE; rw [hR, if_neg (fun h => by cases h.1)]
    have eS : lqS x i = oState := by unfold lqS; rw [eE]; rfl
    rw [eE, eS]
    clear hri hB0 hW0 r0 r1 hx hw hn eE eS
    go_enter Tryd.func21, Tryd.ntmps21
    go_upto_region 1 with fail
    rw [HW.out]
    clear HW z
    go_wp2_with (go_at_call 13; refine HRI.out.mono ?_; rintro e' w1 ⟨rfl, hu⟩; have s1 := svState_run (upR hu R1.out) oState)
    exact retState 4 5 (w.heap.size + 1) oState 49 (.int .i64 1) rfl rfl rfl rfl (setRow_at (upR hu R1.out)) ⟨oState, rfl, resO _ _, below_row (upT HB.out hu) (by omega) _⟩
  · rw [hR] at hri
    have HRI := hid hri
    have hsm := right_small hR
    have hth := fun W => thereS_any x i W hsm.2.2.1
    by_cases hi : i < (x.f11.n : Int)
    · obtain ⟨k, rfl⟩ : ∃ k : Nat, i = (k : Int) := ⟨i.toNat, by omega⟩
      have hkn : k < x.f11.n := by omega
      rw [decide_eq_true hi] at hth
      have HTH := hid hth
      have hrg := (rightB_out hR).rg hx
      have hqE : lqE x (k : Int) = if rightB (lvS x k) = true then 0 else 2 := by unfold lqE; rw [hR, if_pos ⟨rfl, hi⟩]; rfl
      have hqS : lqS x (k : Int) = if lqE x (k : Int) = 0 then lvS x k else oState := rfl
      obtain ⟨QE, eQ⟩ : ∃ d, lqE x (k : Int) = d := ⟨_, rfl⟩
      rw [eQ] at hqE hqS
      rw [eQ]
      have hcp : ∀ W : World, Up W0 W → Calls Tryd.prog 16 #[.agg (cel (sState x))] W fun e w' => ∃ X : VState, e = .returned (.agg (cel (sState X))) ∧ SimF x X ∧ CpdF W.heap.size w' X ∧ Below W.heap.size W w' := fun W h => copyS_any x W (hw.below (upT hB0 h)) hn (small_rch hR)
      have HCP := hid hcp
      have HQE := hid hqE
      have HQS := hid hqS
      have HRT := hid hR
      have HRG := hid hrg
      have HKN := hid hkn
      clear hri hB0 hW0 r0 r1 hx hw hn hR hcp hqE hqS hrg hsm hth hkn hi eQ
      go_enter Tryd.func21, Tryd.ntmps21
      go_upto_region 1 with fail
      rw [HW.out]
      clear HW z
      go_upto_region 3 with (first | (go_at_call 13; refine HRI.out.mono ?_; rintro e' w1a ⟨rfl, hb1⟩; have lx1 := lvState_run (upR hb1 R0.out); have HB1 := hid hb1; clear hb1) | (go_at_call 53; refine (HTH.out _).mono ?_; rintro e' w1 ⟨rfl, hb1b⟩))
      have hb1 := upT HB1.out hb1b
      replace lx1 := lvState_run (upR hb1 R0.out)
      have HCQ := hid (HCP.out w1 hb1)
      have HU1 := hid (upT HB.out hb1)
      have Q0 := hid (upR hb1 R0.out)
      have Q1 := hid (upR hb1 R1.out)
      have hl1 := some_ltK Q1.out
      clear HCP HRI HTH R0 R1 hb1 hb1b HB1 lx
      go_upto_region 4 with (go_at_call 16; refine HCQ.out.mono ?_; rintro e' w2 ⟨X, rfl, hsim, hcd, hb2⟩; have sv := svState_run (upR hb2 Q0.out) X; have HSM := hid hsim; have HCD := hid hcd; have HB2 := hid hb2; clear hsim hcd hb2)
      obtain ⟨hbf, hcc⟩ := BF.own (Nat.le_refl w.heap.size) HU1.out HB2.out (upR HB2.out Q0.out) HCD.out (by rw [cel_size, cel_size]; rfl)
      have hbk : BK w1 w.heap.size (w2.setRow w.heap.size (cel (sState X))) X := ⟨(Kept.ofBelow HB2.out).setRow _, hbf.row, hcc⟩
      obtain ⟨V0, hV⟩ : ∃ V, w2.setRow w.heap.size (cel (sState X)) = V := ⟨_, rfl⟩
      rw [hV] at hbk ⊢
      clear hV hbf hcc sv HCD HB2 HCQ
      have hrX := HRG.out.sim HSM.out
      have hkX : k < X.f11.n := by rw [HSM.out.l11]; exact HKN.out
      have hll := letLeave_any X k w.heap.size w1 V0 hbk hrX hkX
      have HLL := hid hll
      have HRX := hid hrX
      clear hll hbk hrX hkX lx1 HRG
      go_upto_region 5 with (go_at_call 54; refine HLL.out.mono ?_; rintro e' w3 ⟨rfl, hb3⟩)
      have ly := lvState_run hb3.row
      have hRP : Rg (lvS X k) := HRX.out.lv k
      have r13 := hb3.old Q1.out (by omega)
      obtain ⟨P, eP⟩ : ∃ q9, (lvS X k) = q9 := ⟨_, rfl⟩
      have hrz : SimF (lvS x k) P := by rw [← eP]; exact lvS_sim k HSM.out
      rw [eP] at hb3 ly hRP
      have hlnP : rightB x = true → Lns P := fun _ => lnsS_sim hrz (lns_lv (right_lns HRT.out) k)
      have hir := ifRight_any P w3 hRP.ok hb3.inW (hlnP HRT.out)
      have hfE : dnE P 0 = QE := by rw [HQE.out]; show (if rightB P = true then (0 : Int) else 2) = _; rw [rightF hrz]
      have hfS : ∀ V b, V.heap[b]? = some (.cells (cel (sState oState)) 49) → Below w3.heap.size w3 V → Res w.heap.size (V.setRow b (cel (sState (dnS P 0)))) (lqS x (k : Int)) (dnS P 0) := fun V b r h => by
        rw [HQS.out, ← hfE]
        unfold dnS
        by_cases hz : dnE P 0 = 0
        · rw [if_pos hz, if_pos hz]
          exact ((hb3.below h).give r _).to HU1.out.size hrz
        · rw [if_neg hz, if_neg hz]
          exact resO _ _
      rw [hfE] at hir
      obtain ⟨D, eD⟩ : ∃ d, dnS P 0 = d := ⟨_, rfl⟩
      rw [eD] at hir
      simp only [eD] at hfS
      have HDN := hid hir
      have HFS := hid hfS
      have R13 := hid r13
      have HU3 := hid ((HU1.out).trans (hb3.kep.below (B := w.heap.size) (by omega) HU1.out.size))
      clear hir hfS r13 hb3 hfE hrz hlnP hRP HQE HQS HSM eP eD HLL
      go_wp2_with (go_at_call 55; refine HDN.out.mono ?_; rintro e' w4 ⟨rfl, hb4⟩; have s1 := svState_run (upR hb4 R13.out) D)
      exact retState 4 5 (w.heap.size + 1) D 49 (.int .i64 QE) rfl rfl rfl rfl (setRow_at (upR hb4 R13.out)) ⟨D, rfl, HFS.out w4 _ (upR hb4 R13.out) hb4, below_row (upT HU3.out hb4) (by omega) _⟩
    · rw [decide_eq_false hi] at hth
      have HTH := hid hth
      have eE : lqE x i = 1 := by unfold lqE; rw [if_neg (fun h => hi h.2)]
      have eS : lqS x i = oState := by unfold lqS; rw [eE]; rfl
      rw [eE, eS]
      clear hri hB0 hW0 r0 r1 hx hw hn eE eS hsm hR hth hi
      go_enter Tryd.func21, Tryd.ntmps21
      go_upto_region 1 with fail
      rw [HW.out]
      clear HW z
      go_wp2_with (first | (go_at_call 13; refine HRI.out.mono ?_; rintro e' w1 ⟨rfl, hb1⟩; have lx1 := lvState_run (upR hb1 R0.out); have HB1 := hid hb1; clear hb1) | (go_at_call 53; refine (HTH.out _).mono ?_; rintro e' w1b ⟨rfl, hb1b⟩; have hu := upT HB1.out hb1b; have s1 := svState_run (upR hu R1.out) oState))
      exact retState 4 5 (w.heap.size + 1) oState 49 (.int .i64 1) rfl rfl rfl rfl (setRow_at (upR hu R1.out)) ⟨oState, rfl, resO _ _, below_row (upT HB.out hu) (by omega) _⟩

end Go.Proofs.YtmapeodhcllimaaDoor

namespace Go.Proofs.YtmapeodhcllimaaDoor

open Go.RowKit

set_option linter.unusedVariables false

set_option linter.unusedSimpArgs false

set_option maxRecDepth 20000

attribute [local go_sem ↓] lvState_eq svState_eq bdState_eq lvValidator_eq svValidator_eq ixValidator_eq bvV_eq bsV_eq ixU_eq



theorem lq_all {x X : VState} (i : Int) (h : OkState x) (hl : Lns x) (hs : SimF x X) : SimF (lqS x i) (lqS X i) ∧ OkState (lqS x i) ∧ Lns (lqS x i) ∧ (lqE x i = 0 → Rch (lqS x i)) := by
  refine ⟨lqS_sim hs i, ?_⟩
  unfold lqS
  by_cases hz : lqE x i = 0
  · rw [if_pos hz]
    have hz2 := hz
    unfold lqE at hz2
    by_cases hc : rightB x = true ∧ i < (x.f11.n : Int)
    · rw [if_pos hc] at hz2
      by_cases hr : rightB (lvS x i.toNat) = true
      · exact ⟨ok_lv h (rightB_out hc.1).c7 _, right_lns hr, fun _ => small_rch hr⟩
      · rw [if_neg hr] at hz2; omega
    · rw [if_neg hc] at hz2; omega
  · rw [if_neg hz]
    exact ⟨ok_z15, lns_z, fun h => absurd h hz⟩

end Go.Proofs.YtmapeodhcllimaaDoor

namespace Go.Proofs.YtmapeodhcllimaaDoor

open Go.RowKit

set_option linter.unusedVariables false

set_option linter.unusedSimpArgs false

set_option maxRecDepth 20000

/-- As many of all. -/
structure AsM (n : Nat) (x : VState) : Prop where
  m11 : x.f11.n = n
  m12 : x.f12.n = n
  m15 : x.f15.n = n
  m16 : x.f16.n = n
  m21 : x.f21.n = n

theorem RtO.asM {x : VState} (h : RtO x) : AsM x.f11.n x := ⟨rfl, h.c1, h.c2, h.c3, h.c4⟩

theorem AsM.sim {n : Nat} {x X : VState} (h : AsM n x) (s : SimF x X) : AsM n X := ⟨s.l11.trans h.m11, s.l12.trans h.m12, s.l15.trans h.m15, s.l16.trans h.m16, s.l21.trans h.m21⟩

attribute [local go_sem ↓] lvState_eq svState_eq ixValidator_eq

set_option maxHeartbeats 4000000 in
theorem rlike_any (a b : VState) (n : Nat) (w : World) (ha : AsM n a) (hb : AsM n b) :
    Calls Tryd.prog 9 #[.agg (cel (sState a)), .agg (cel (sState b))] w fun e' w' => e' = .returned (.bool true) ∧ Below w.heap.size w w' := by
  obtain ⟨W0, hW0⟩ : ∃ W, (w.alloc (.cells (cel (sState a)) 49)).alloc (.cells (cel (sState b)) 49) = W := ⟨_, rfl⟩
  have r0 : W0.heap[w.heap.size]? = some (.cells (cel (sState a)) 49) := by rw [← hW0]; exact (heap_old (by simp)).trans (heap_new rfl)
  have r1 : W0.heap[w.heap.size + 1]? = some (.cells (cel (sState b)) 49) := by rw [← hW0]; exact heap_new (by simp)
  have hB0 : Up w W0 := by rw [← hW0]; exact ((Below.refl _ _).alloc (Nat.le_refl _) _).alloc (by simp) _
  have c11 := cS11 r0
  rw [ha.m11] at c11
  have d11 := cS11 r1
  rw [hb.m11] at d11
  have c12 := cS12 r0
  rw [ha.m12] at c12
  have d12 := cS12 r1
  rw [hb.m12] at d12
  have c15 := cS15 r0
  rw [ha.m15] at c15
  have d15 := cS15 r1
  rw [hb.m15] at d15
  have c16 := cS16 r0
  rw [ha.m16] at c16
  have d16 := cS16 r1
  rw [hb.m16] at d16
  have c21 := cS21 r0
  rw [ha.m21] at c21
  have d21 := cS21 r1
  rw [hb.m21] at d21
  have HB := hid hB0
  have HW := hid hW0
  clear hB0 hW0 r0 r1
  generalize a.f11.a = A11 at c11
  generalize a.f11.c = C11 at c11
  generalize b.f11.a = B11 at d11
  generalize b.f11.c = D11 at d11
  generalize a.f12.a = A12 at c12
  generalize a.f12.c = C12 at c12
  generalize b.f12.a = B12 at d12
  generalize b.f12.c = D12 at d12
  generalize a.f15.a = A15 at c15
  generalize a.f15.c = C15 at c15
  generalize b.f15.a = B15 at d15
  generalize b.f15.c = D15 at d15
  generalize a.f16.a = A16 at c16
  generalize a.f16.c = C16 at c16
  generalize b.f16.a = B16 at d16
  generalize b.f16.c = D16 at d16
  generalize a.f21.a = A21 at c21
  generalize a.f21.c = C21 at c21
  generalize b.f21.a = B21 at d21
  generalize b.f21.c = D21 at d21
  go_enter Tryd.func9, Tryd.ntmps9
  go_upto_region 1 with fail
  rw [HW.out]
  clear HW
  go_wp2
  go_ret
  exact ⟨rfl, HB.out⟩

end Go.Proofs.YtmapeodhcllimaaDoor
