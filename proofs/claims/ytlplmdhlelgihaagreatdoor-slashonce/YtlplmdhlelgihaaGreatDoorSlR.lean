/-
  The program's ifRight, slashAll, Leave and Slash.
-/

import Derived.Test.YtlplmdhlelgihaaGreatDoorSlQ
namespace Go.Proofs.YtlplmdhlelgihaaGreatDoor

open Go.RowKit

set_option linter.unusedVariables false

set_option linter.unusedSimpArgs false

set_option maxRecDepth 20000

/-- Some that are slashed, one behind the other. -/
def sloF (X : VState) (f : Nat → Int) (p : Nat) : Nat → VState
  | 0 => X
  | k + 1 => sloS (sloF X f p k) (f k).toNat p

theorem sloF_rg {X : VState} {f : Nat → Int} {p : Nat} (h : Rg X) : ∀ k, (∀ j, j < k → (f j).toNat < X.f11.n) → Rg (sloF X f p k) ∧ (sloF X f p k).f11.n = X.f11.n
  | 0, _ => ⟨h, rfl⟩
  | k + 1, hf => by
    obtain ⟨a, b⟩ := sloF_rg h k fun j hj => hf j (by omega)
    refine ⟨a.o _ p (by rw [b]; exact hf k (by omega)), ?_⟩
    show (sloS (sloF X f p k) (f k).toNat p).f11.n = _
    rw [← b]
    exact (slA_o _ _).2.2.1

theorem sloF_sim {x X : VState} (f : Nat → Int) (p : Nat) (h : SimF x X) : ∀ k, SimF (sloF x f p k) (sloF X f p k)
  | 0 => h
  | k + 1 => sloS_sim _ p (sloF_sim f p h k)

def saE (x : VState) (f : Nat → Int) (n : Nat) : Int := if prE x = 0 then (if rightB (sloF x f (prV x).toNat n) = true then 0 else 2) else prE x

def saS (x : VState) (f : Nat → Int) (n : Nat) : VState := if saE x f n = 0 then sloF x f (prV x).toNat n else oState

theorem lnsS_sim {X Y : VState} (h : SimF X Y) (hl : Lns X) : Lns Y := by unfold Lns at hl ⊢; rw [h.l11, h.l21, h.l12]; exact hl

theorem lns_lv {x : VState} (h : Lns x) (i : Nat) : Lns (lvS x i) := by
  unfold lvS
  split <;> exact h

theorem lns_slo {x : VState} (h : Lns x) (i p : Nat) : Lns (sloS x i p) := lns_lv h i

theorem lns_sloF {x : VState} (h : Lns x) (f : Nat → Int) (p : Nat) : ∀ k, Lns (sloF x f p k)
  | 0 => h
  | k + 1 => lns_slo (lns_sloF h f p k) _ p

attribute [local go_sem ↓] lvState_eq svState_eq bdState_eq ixU_eq

set_option maxHeartbeats 4000000 in
theorem ifRight_any (x : VState) (w : World) (hx : OkState x) (hw : InW w x) (hl : Lns x) :
    Calls Tryz.prog 21 #[.agg (cel (sState x))] w fun e' w' => e' = .returned (.tuple #[.agg (cel (sState (dnS x 0))), .int .i64 (dnE x 0)]) ∧ Below w.heap.size w w' := by
  obtain ⟨W0, hW0⟩ : ∃ W, (w.alloc (.cells (cel (sState x)) 49)).alloc (.cells (cel (sState oState)) 49) = W := ⟨_, rfl⟩
  have r0 : W0.heap[w.heap.size]? = some (.cells (cel (sState x)) 49) := by rw [← hW0]; exact (heap_old (by simp)).trans (heap_new rfl)
  have r1 : W0.heap[w.heap.size + 1]? = some (.cells (cel (sState oState)) 49) := by rw [← hW0]; exact heap_new (by simp)
  have hB0 : Up w W0 := by rw [← hW0]; exact ((Below.refl _ _).alloc (Nat.le_refl _) _).alloc (by simp) _
  have hri := right_any x W0 hx.r' (hw.below hB0).r' hl
  have lx := lvState_run r0
  have z := zeroState
  have bz := bdState_0
  have HB := hid hB0
  have HW := hid hW0
  have R0 := hid r0
  have R1 := hid r1
  have HRI := hid hri
  clear hri hB0 hW0 r0 r1 hx hw
  cases hR : rightB x
  · rw [hR] at HRI
    have eE : dnE x 0 = 2 := by unfold dnE; rw [hR]; rfl
    have eS : dnS x 0 = oState := by unfold dnS; rw [eE]; rfl
    rw [eE, eS]
    clear eE eS hR R0
    go_enter Tryz.func21, Tryz.ntmps21
    go_upto_region 1 with fail
    rw [HW.out]
    clear HW z
    go_wp2_with (go_at_call 11; refine HRI.out.mono ?_; rintro e' w1 ⟨rfl, hb1⟩; have s1 := svState_run (upR hb1 R1.out) oState)
    exact retState 2 3 (w.heap.size + 1) oState 49 (.int .i64 2) rfl rfl rfl rfl (setRow_at (upR hb1 R1.out)) ⟨rfl, below_row (upT HB.out hb1) (by omega) _⟩
  · rw [hR] at HRI
    have eE : dnE x 0 = 0 := by unfold dnE; rw [hR]; rfl
    have eS : dnS x 0 = x := by unfold dnS; rw [eE]; rfl
    rw [eE, eS]
    clear eE eS hR
    go_enter Tryz.func21, Tryz.ntmps21
    go_upto_region 1 with fail
    rw [HW.out]
    clear HW z
    go_wp2_with (go_at_call 11; refine HRI.out.mono ?_; rintro e' w1 ⟨rfl, hb1⟩; have lx1 := lvState_run (upR hb1 R0.out); have s1 := svState_run (upR hb1 R1.out) x)
    exact retState 2 3 (w.heap.size + 1) x 49 (.int .i64 0) rfl rfl rfl rfl (setRow_at (upR hb1 R1.out)) ⟨rfl, below_row (upT HB.out hb1) (by omega) _⟩

set_option maxHeartbeats 8000000 in
theorem slashAll_any (x : VState) (a : Option Addr) (n c : Nat) (f : Nat → Int) (w : World) (hx : OkState x) (hw : InW w x) (hn : NilW x) (hR : rightB x = true) (hf : Z.Nms .u64 w a n f) (hfb : ∀ j, j < n → 0 ≤ f j ∧ f j < (x.f11.n : Int)) (hnn : n ≤ 9223372036854775807) (hS : Sh w) :
    Calls Tryz.prog 13 #[.agg (cel (sState x)), .slice a n c] w fun e' w' => ∃ X, e' = .returned (.tuple #[.agg (cel (sState X)), .int .i64 (saE x f n)]) ∧ Res w.heap.size w' (saS x f n) X ∧ Below w.heap.size w w' := by
  obtain ⟨W0, hW0⟩ : ∃ W, (w.alloc (.cells (cel (sState x)) 49)).alloc (.cells (cel (sState oState)) 49) = W := ⟨_, rfl⟩
  have r0 : W0.heap[w.heap.size]? = some (.cells (cel (sState x)) 49) := by rw [← hW0]; exact (heap_old (by simp)).trans (heap_new rfl)
  have r1 : W0.heap[w.heap.size + 1]? = some (.cells (cel (sState oState)) 49) := by rw [← hW0]; exact heap_new (by simp)
  have hB0 : Up w W0 := by rw [← hW0]; exact ((Below.refl _ _).alloc (Nat.le_refl _) _).alloc (by simp) _
  have hrg := (rightB_out hR).rg hx
  have hpr := prop_prog x W0 hx (hrg.lk (hw.below hB0)) (hS.below hB0)
  have lx := lvState_run r0
  have z := zeroState
  have bz := bdState_0
  have HB := hid hB0
  have HW := hid hW0
  have R0 := hid r0
  have R1 := hid r1
  have hqS : saS x f n = if saE x f n = 0 then sloF x f (prV x).toNat n else oState := rfl
  have hqE : saE x f n = if prE x = 0 then (if rightB (sloF x f (prV x).toNat n) = true then 0 else 2) else prE x := rfl
  have hin := pr_in (X := x)
  obtain ⟨PE, ePE⟩ : ∃ e, prE x = e := ⟨_, rfl⟩
  obtain ⟨PV, ePV⟩ : ∃ e, prV x = e := ⟨_, rfl⟩
  rw [ePE] at hqE hin
  rw [ePV] at hqE hqS hin
  rw [ePE, ePV] at hpr
  have HPR := hid hpr
  clear ePE ePV hpr hS
  by_cases hp : PE = 0
  · subst hp
    rw [if_pos rfl] at hqE
    obtain ⟨p, rfl, hpn⟩ := hin rfl
    rw [show ((p : Int)).toNat = p from rfl] at hqE hqS
    obtain ⟨QE, eQ⟩ : ∃ d, saE x f n = d := ⟨_, rfl⟩
    rw [eQ] at hqE hqS
    rw [eQ]
    have hcp : ∀ W : World, Up W0 W → Calls Tryz.prog 19 #[.agg (cel (sState x))] W fun e w' => ∃ X : VState, e = .returned (.agg (cel (sState X))) ∧ SimF x X ∧ CpdF W.heap.size w' X ∧ Below W.heap.size W w' := fun W h => copyS_any x W (hw.below (upT hB0 h)) hn (small_rch hR)
    have HCP := hid hcp
    have HQE := hid hqE
    have HQS := hid hqS
    have HRT := hid hR
    have HRG := hid hrg
    have HPN := hid hpn
    have HF := hid hf
    have HFB := hid hfb
    clear hB0 hW0 r0 r1 hx hw hn hR hf hfb hcp hqE hqS hin hrg hpn eQ
    go_enter Tryz.func13, Tryz.ntmps13
    go_upto_region 1 with fail
    rw [HW.out]
    clear HW
    go_upto_region 2 with (go_at_call 29; refine HPR.out.mono ?_; rintro e' w1 ⟨rfl, hb1⟩)
    have lx1 := lvState_run (upR hb1 R0.out)
    have HCQ := hid (HCP.out w1 hb1)
    have HU1 := hid (upT HB.out hb1)
    have Q0 := hid (upR hb1 R0.out)
    have Q1 := hid (upR hb1 R1.out)
    have hl1 := some_ltK Q1.out
    clear HCP HPR R0 R1 hb1 lx
    go_upto_region 5 with (go_at_call 19; refine HCQ.out.mono ?_; rintro e' w2 ⟨X, rfl, hsim, hcd, hb2⟩; have sv := svState_run (upR hb2 Q0.out) X; have HSM := hid hsim; have HCD := hid hcd; have HB2 := hid hb2; clear hsim hcd hb2)
    obtain ⟨hbf, hcc⟩ := BF.own (Nat.le_refl w.heap.size) HU1.out HB2.out (upR HB2.out Q0.out) HCD.out (by rw [cel_size, cel_size]; rfl)
    have hbk : BK w1 w.heap.size (w2.setRow w.heap.size (cel (sState X))) X := ⟨(Kept.ofBelow HB2.out).setRow _, hbf.row, hcc⟩
    obtain ⟨V0, hV⟩ : ∃ V, w2.setRow w.heap.size (cel (sState X)) = V := ⟨_, rfl⟩
    rw [hV] at hbk ⊢
    clear hV hbf hcc sv HCD HB2 HCQ
    have hrX := HRG.out.sim HSM.out
    have hkX : ∀ j, j < n → (f j).toNat < X.f11.n := fun j hj => by have := HFB.out j hj; rw [HSM.out.l11]; omega
    have hso := fun (k : Nat) (hk : k ≤ n) (V : World) (h : BK w1 w.heap.size V (sloF X f p k)) (hkn : k < n) => slashOne_any (sloF X f p k) (f k).toNat p w.heap.size w1 V h (sloF_rg hrX k fun j hj => hkX j (by omega)).1 (by rw [(sloF_rg hrX k fun j hj => hkX j (by omega)).2]; exact hkX k hkn) (by rw [(sloF_rg hrX k fun j hj => hkX j (by omega)).2, HSM.out.l11]; exact HPN.out)
    have HSO := hid hso
    have HRX := hid hrX
    have HKX := hid hkX
    have HBK := hid hbk
    clear hso hrX hkX hbk lx1 HRG z
    go_wp2
    go_loopw [23] (fun c wr => ∃ k : Nat, k ≤ n ∧ c = .int .i64 k ∧ BK w1 w.heap.size wr (sloF X f p k)) (fun c _ => n - (intOf c).toNat)
    case atStart => exact ⟨0, by omega, rfl, HBK.out⟩
    case round =>
      obtain ⟨k, hk, rfl, hbk⟩ := hrel
      by_cases hkn : k < n
      · have k1 : (k : Int) < (n : Int) := by omega
        have kw : IntKind.i64.wrap ((k : Int) + 1) = (k : Int) + 1 := by rw [IntKind.wrap_i64]; omega
        rcases HF.out with h0 | ⟨b, off, ea, hbl, hc⟩
        · omega
        subst ea
        have ck : wr.cell? ⟨b, off + k, none⟩ = some (.int .u64 (f k)) := (hbk.kep.cell (Nat.lt_of_lt_of_le hbl HU1.out.size) (by omega)).trans ((below_cell HU1.out hbl).trans (hc k hkn))
        have ix := fun W => ixU_run W b off n c k hkn
        obtain ⟨m, em⟩ : ∃ m : Nat, f k = (m : Int) := ⟨(f k).toNat, by have := (HFB.out k hkn).1; omega⟩
        have hs1 := HSO.out k hk wr hbk hkn
        have hst : sloF X f p (k + 1) = sloS (sloF X f p k) m p := by show sloS (sloF X f p k) (f k).toNat p = _; rw [em]; rfl
        rw [em] at ck hs1
        rw [show ((m : Int)).toNat = m from rfl, ← hst] at hs1
        have HS1 := hid hs1
        clear hs1 hst hbk hc hbl em
        go_wp2_with (go_at_call 30; refine HS1.out.mono ?_; rintro e' w3 ⟨rfl, hb3⟩; have HB3 := hid hb3; clear hb3)
        go_roundw
        case rel => exact ⟨k + 1, by omega, by go_num, HB3.out⟩
        case measure => simp [intOf]; omega
      · obtain rfl : k = n := by omega
        have kN : ¬ (k : Int) < (k : Int) := by omega
        obtain ⟨w3, ew3⟩ : ∃ V, wr = V := ⟨_, rfl⟩
        rw [ew3] at hbk ⊢
        have hb3 := hbk
        clear ew3 hbk HSO HBK
        have ly := lvState_run hb3.row
        have hRP : Rg (sloF X f p k) := (sloF_rg HRX.out k HKX.out).1
        have r13 := hb3.old Q1.out (by omega)
        obtain ⟨P, eP⟩ : ∃ q9, (sloF X f p k) = q9 := ⟨_, rfl⟩
        have hrz : SimF (sloF x f p k) P := by rw [← eP]; exact sloF_sim f p HSM.out k
        rw [eP] at hb3 ly hRP
        have hlnP : rightB x = true → Lns P := fun _ => lnsS_sim hrz (lns_sloF (right_lns HRT.out) f p k)
        have hir := ifRight_any P w3 hRP.ok hb3.inW (hlnP HRT.out)
        have hfE : dnE P 0 = QE := by rw [HQE.out]; show (if rightB P = true then (0 : Int) else 2) = _; rw [rightF hrz]
        have hfS : ∀ V b, V.heap[b]? = some (.cells (cel (sState oState)) 49) → Below w3.heap.size w3 V → Res w.heap.size (V.setRow b (cel (sState (dnS P 0)))) (saS x f k) (dnS P 0) := fun V b r h => by
          rw [HQS.out, ← hfE]
          unfold dnS
          by_cases hz : dnE P 0 = 0
          · rw [if_pos hz, if_pos hz]
            exact ((hb3.below h).give r _).to HU1.out.size hrz
          · rw [if_neg hz, if_neg hz]
            exact resO _ _
        rw [hfE] at hir
        obtain ⟨D, eD⟩ : ∃ d, dnS P 0 = d := ⟨_, rfl⟩
        rw [eD] at hir
        simp only [eD] at hfS
        have HDN := hid hir
        have HFS := hid hfS
        have R13 := hid r13
        have HU3 := hid ((HU1.out).trans (hb3.kep.below (B := w.heap.size) (by omega) HU1.out.size))
        clear hir hfS r13 hb3 hfE hrz hlnP hRP HQE HQS HSM eP eD 
        go_wp2_with (go_at_call 21; refine HDN.out.mono ?_; rintro e' w4 ⟨rfl, hb4⟩; have s1 := svState_run (upR hb4 R13.out) D)
        exact retState 4 5 (w.heap.size + 1) D 49 (.int .i64 QE) rfl rfl rfl rfl (setRow_at (upR hb4 R13.out)) ⟨D, rfl, HFS.out w4 _ (upR hb4 R13.out) hb4, below_row (upT HU3.out hb4) (by omega) _⟩
  · have hp2 : (PE != 0) = true := by simp [hp]
    rw [if_neg hp] at hqE
    have eS : saS x f n = oState := by rw [hqS, hqE, if_neg hp]
    rw [eS, hqE]
    clear hB0 hW0 r0 r1 hx hw hn hR hf hfb hqE hqS hin eS hrg
    go_enter Tryz.func13, Tryz.ntmps13
    go_upto_region 1 with fail
    rw [HW.out]
    clear HW z
    go_wp2_with (go_at_call 29; refine HPR.out.mono ?_; rintro e' w1 ⟨rfl, hu⟩; have s1 := svState_run (upR hu R1.out) oState)
    exact retState 4 5 (w.heap.size + 1) oState 49 (.int .i64 PE) rfl rfl rfl rfl (setRow_at (upR hu R1.out)) ⟨oState, rfl, resO _ _, below_row (upT HB.out hu) (by omega) _⟩

set_option maxHeartbeats 8000000 in
theorem leave_prog (x : VState) (i : Int) (w : World) (hx : OkState x) (hw : InW w x) (hn : NilW x) (hl : Lns x) (h0 : 0 ≤ i) :
    Calls Tryz.prog 9 #[.agg (cel (sState x)), .int .u64 i] w fun e' w' => ∃ X, e' = .returned (.tuple #[.agg (cel (sState X)), .int .i64 (lqE x i)]) ∧ Res w.heap.size w' (lqS x i) X ∧ Below w.heap.size w w' := by
  obtain ⟨W0, hW0⟩ : ∃ W, (w.alloc (.cells (cel (sState x)) 49)).alloc (.cells (cel (sState oState)) 49) = W := ⟨_, rfl⟩
  have r0 : W0.heap[w.heap.size]? = some (.cells (cel (sState x)) 49) := by rw [← hW0]; exact (heap_old (by simp)).trans (heap_new rfl)
  have r1 : W0.heap[w.heap.size + 1]? = some (.cells (cel (sState oState)) 49) := by rw [← hW0]; exact heap_new (by simp)
  have hB0 : Up w W0 := by rw [← hW0]; exact ((Below.refl _ _).alloc (Nat.le_refl _) _).alloc (by simp) _
  have hri := right_any x W0 hx.r' (hw.below hB0).r' hl
  have lx := lvState_run r0
  have z := zeroState
  have bz := bdState_0
  have HB := hid hB0
  have HW := hid hW0
  have R0 := hid r0
  have R1 := hid r1
  cases hR : rightB x
  · rw [hR] at hri
    have HRI := hid hri
    have eE : lqE x i = 1 := by unfold lqE; rw [hR, if_neg (fun h => by cases h.1)]
    have eS : lqS x i = oState := by unfold lqS; rw [eE]; rfl
    rw [eE, eS]
    clear hri hB0 hW0 r0 r1 hx hw hn eE eS
    go_enter Tryz.func9, Tryz.ntmps9
    go_upto_region 1 with fail
    rw [HW.out]
    clear HW z
    go_wp2_with (go_at_call 11; refine HRI.out.mono ?_; rintro e' w1 ⟨rfl, hu⟩; have s1 := svState_run (upR hu R1.out) oState)
    exact retState 4 5 (w.heap.size + 1) oState 49 (.int .i64 1) rfl rfl rfl rfl (setRow_at (upR hu R1.out)) ⟨oState, rfl, resO _ _, below_row (upT HB.out hu) (by omega) _⟩
  · rw [hR] at hri
    have HRI := hid hri
    have hsm := right_small hR
    have hth := fun W => thereS_any x i W hsm.2.2.1
    by_cases hi : i < (x.f11.n : Int)
    · obtain ⟨k, rfl⟩ : ∃ k : Nat, i = (k : Int) := ⟨i.toNat, by omega⟩
      have hkn : k < x.f11.n := by omega
      rw [decide_eq_true hi] at hth
      have HTH := hid hth
      have hrg := (rightB_out hR).rg hx
      have hqE : lqE x (k : Int) = if rightB (lvS x k) = true then 0 else 2 := by unfold lqE; rw [hR, if_pos ⟨rfl, hi⟩]; rfl
      have hqS : lqS x (k : Int) = if lqE x (k : Int) = 0 then lvS x k else oState := rfl
      obtain ⟨QE, eQ⟩ : ∃ d, lqE x (k : Int) = d := ⟨_, rfl⟩
      rw [eQ] at hqE hqS
      rw [eQ]
      have hcp : ∀ W : World, Up W0 W → Calls Tryz.prog 19 #[.agg (cel (sState x))] W fun e w' => ∃ X : VState, e = .returned (.agg (cel (sState X))) ∧ SimF x X ∧ CpdF W.heap.size w' X ∧ Below W.heap.size W w' := fun W h => copyS_any x W (hw.below (upT hB0 h)) hn (small_rch hR)
      have HCP := hid hcp
      have HQE := hid hqE
      have HQS := hid hqS
      have HRT := hid hR
      have HRG := hid hrg
      have HKN := hid hkn
      clear hri hB0 hW0 r0 r1 hx hw hn hR hcp hqE hqS hrg hsm hth hkn hi eQ
      go_enter Tryz.func9, Tryz.ntmps9
      go_upto_region 1 with fail
      rw [HW.out]
      clear HW z
      go_upto_region 3 with (first | (go_at_call 11; refine HRI.out.mono ?_; rintro e' w1a ⟨rfl, hb1⟩; have lx1 := lvState_run (upR hb1 R0.out); have HB1 := hid hb1; clear hb1) | (go_at_call 12; refine (HTH.out _).mono ?_; rintro e' w1 ⟨rfl, hb1b⟩))
      have hb1 := upT HB1.out hb1b
      replace lx1 := lvState_run (upR hb1 R0.out)
      have HCQ := hid (HCP.out w1 hb1)
      have HU1 := hid (upT HB.out hb1)
      have Q0 := hid (upR hb1 R0.out)
      have Q1 := hid (upR hb1 R1.out)
      have hl1 := some_ltK Q1.out
      clear HCP HRI HTH R0 R1 hb1 hb1b HB1 lx
      go_upto_region 4 with (go_at_call 19; refine HCQ.out.mono ?_; rintro e' w2 ⟨X, rfl, hsim, hcd, hb2⟩; have sv := svState_run (upR hb2 Q0.out) X; have HSM := hid hsim; have HCD := hid hcd; have HB2 := hid hb2; clear hsim hcd hb2)
      obtain ⟨hbf, hcc⟩ := BF.own (Nat.le_refl w.heap.size) HU1.out HB2.out (upR HB2.out Q0.out) HCD.out (by rw [cel_size, cel_size]; rfl)
      have hbk : BK w1 w.heap.size (w2.setRow w.heap.size (cel (sState X))) X := ⟨(Kept.ofBelow HB2.out).setRow _, hbf.row, hcc⟩
      obtain ⟨V0, hV⟩ : ∃ V, w2.setRow w.heap.size (cel (sState X)) = V := ⟨_, rfl⟩
      rw [hV] at hbk ⊢
      clear hV hbf hcc sv HCD HB2 HCQ
      have hrX := HRG.out.sim HSM.out
      have hkX : k < X.f11.n := by rw [HSM.out.l11]; exact HKN.out
      have hll := letLeave_any X k w.heap.size w1 V0 hbk hrX hkX
      have HLL := hid hll
      have HRX := hid hrX
      clear hll hbk hrX hkX lx1 HRG
      go_upto_region 5 with (go_at_call 20; refine HLL.out.mono ?_; rintro e' w3 ⟨rfl, hb3⟩)
      have ly := lvState_run hb3.row
      have hRP : Rg (lvS X k) := HRX.out.lv k
      have r13 := hb3.old Q1.out (by omega)
      obtain ⟨P, eP⟩ : ∃ q9, (lvS X k) = q9 := ⟨_, rfl⟩
      have hrz : SimF (lvS x k) P := by rw [← eP]; exact lvS_sim k HSM.out
      rw [eP] at hb3 ly hRP
      have hlnP : rightB x = true → Lns P := fun _ => lnsS_sim hrz (lns_lv (right_lns HRT.out) k)
      have hir := ifRight_any P w3 hRP.ok hb3.inW (hlnP HRT.out)
      have hfE : dnE P 0 = QE := by rw [HQE.out]; show (if rightB P = true then (0 : Int) else 2) = _; rw [rightF hrz]
      have hfS : ∀ V b, V.heap[b]? = some (.cells (cel (sState oState)) 49) → Below w3.heap.size w3 V → Res w.heap.size (V.setRow b (cel (sState (dnS P 0)))) (lqS x (k : Int)) (dnS P 0) := fun V b r h => by
        rw [HQS.out, ← hfE]
        unfold dnS
        by_cases hz : dnE P 0 = 0
        · rw [if_pos hz, if_pos hz]
          exact ((hb3.below h).give r _).to HU1.out.size hrz
        · rw [if_neg hz, if_neg hz]
          exact resO _ _
      rw [hfE] at hir
      obtain ⟨D, eD⟩ : ∃ d, dnS P 0 = d := ⟨_, rfl⟩
      rw [eD] at hir
      simp only [eD] at hfS
      have HDN := hid hir
      have HFS := hid hfS
      have R13 := hid r13
      have HU3 := hid ((HU1.out).trans (hb3.kep.below (B := w.heap.size) (by omega) HU1.out.size))
      clear hir hfS r13 hb3 hfE hrz hlnP hRP HQE HQS HSM eP eD HLL
      go_wp2_with (go_at_call 21; refine HDN.out.mono ?_; rintro e' w4 ⟨rfl, hb4⟩; have s1 := svState_run (upR hb4 R13.out) D)
      exact retState 4 5 (w.heap.size + 1) D 49 (.int .i64 QE) rfl rfl rfl rfl (setRow_at (upR hb4 R13.out)) ⟨D, rfl, HFS.out w4 _ (upR hb4 R13.out) hb4, below_row (upT HU3.out hb4) (by omega) _⟩
    · rw [decide_eq_false hi] at hth
      have HTH := hid hth
      have eE : lqE x i = 1 := by unfold lqE; rw [if_neg (fun h => hi h.2)]
      have eS : lqS x i = oState := by unfold lqS; rw [eE]; rfl
      rw [eE, eS]
      clear hri hB0 hW0 r0 r1 hx hw hn eE eS hsm hR hth hi
      go_enter Tryz.func9, Tryz.ntmps9
      go_upto_region 1 with fail
      rw [HW.out]
      clear HW z
      go_wp2_with (first | (go_at_call 11; refine HRI.out.mono ?_; rintro e' w1 ⟨rfl, hb1⟩; have lx1 := lvState_run (upR hb1 R0.out); have HB1 := hid hb1; clear hb1) | (go_at_call 12; refine (HTH.out _).mono ?_; rintro e' w1b ⟨rfl, hb1b⟩; have hu := upT HB1.out hb1b; have s1 := svState_run (upR hu R1.out) oState))
      exact retState 4 5 (w.heap.size + 1) oState 49 (.int .i64 1) rfl rfl rfl rfl (setRow_at (upR hu R1.out)) ⟨oState, rfl, resO _ _, below_row (upT HB.out hu) (by omega) _⟩

set_option maxHeartbeats 8000000 in
theorem slash_prog (x : VState) (i : Int) (w : World) (hx : OkState x) (hw : InW w x) (hn : NilW x) (hl : Lns x) (h0 : 0 ≤ i) (hS : Sh w) :
    Calls Tryz.prog 5 #[.agg (cel (sState x)), .int .u64 i] w fun e' w' => ∃ X, e' = .returned (.tuple #[.agg (cel (sState X)), .int .i64 (sqE x i)]) ∧ Res w.heap.size w' (sqS x i) X ∧ Below w.heap.size w w' := by
  obtain ⟨W0, hW0⟩ : ∃ W, (w.alloc (.cells (cel (sState x)) 49)).alloc (.cells (cel (sState oState)) 49) = W := ⟨_, rfl⟩
  have r0 : W0.heap[w.heap.size]? = some (.cells (cel (sState x)) 49) := by rw [← hW0]; exact (heap_old (by simp)).trans (heap_new rfl)
  have r1 : W0.heap[w.heap.size + 1]? = some (.cells (cel (sState oState)) 49) := by rw [← hW0]; exact heap_new (by simp)
  have hB0 : Up w W0 := by rw [← hW0]; exact ((Below.refl _ _).alloc (Nat.le_refl _) _).alloc (by simp) _
  have hri := right_any x W0 hx.r' (hw.below hB0).r' hl
  have lx := lvState_run r0
  have z := zeroState
  have bz := bdState_0
  have HB := hid hB0
  have HW := hid hW0
  have R0 := hid r0
  have R1 := hid r1
  cases hR : rightB x
  · rw [hR] at hri
    have HRI := hid hri
    have eE : sqE x i = 1 := by unfold sqE; rw [hR, if_neg (fun h => by cases h.1)]
    have eS : sqS x i = oState := by unfold sqS; rw [eE]; rfl
    rw [eE, eS]
    clear hri hB0 hW0 r0 r1 hx hw hn eE eS
    go_enter Tryz.func5, Tryz.ntmps5
    go_upto_region 1 with fail
    rw [HW.out]
    clear HW z
    go_wp2_with (go_at_call 11; refine HRI.out.mono ?_; rintro e' w1 ⟨rfl, hu⟩; have s1 := svState_run (upR hu R1.out) oState)
    exact retState 4 5 (w.heap.size + 1) oState 49 (.int .i64 1) rfl rfl rfl rfl (setRow_at (upR hu R1.out)) ⟨oState, rfl, resO _ _, below_row (upT HB.out hu) (by omega) _⟩
  · rw [hR] at hri
    have HRI := hid hri
    have hsm := right_small hR
    have hth := fun W => thereS_any x i W hsm.2.2.1
    by_cases hi : i < (x.f11.n : Int)
    · obtain ⟨k, rfl⟩ : ∃ k : Nat, i = (k : Int) := ⟨i.toNat, by omega⟩
      have hkn : k < x.f11.n := by omega
      rw [decide_eq_true hi] at hth
      have HTH := hid hth
      have hrg := (rightB_out hR).rg hx
      have e0 : sloF x (fun _ => (k : Int)) (prV x).toNat 1 = sloS x k (prV x).toNat := rfl
      have hs : sqE x (k : Int) = if prE x = 0 then (if rightB (slS x k) = true then 0 else 2) else prE x := by unfold sqE; rw [hR, if_pos ⟨rfl, hi⟩]; rfl
      have hqE : saE x (fun _ => (k : Int)) 1 = sqE x (k : Int) := by
        rw [hs]
        unfold saE
        rw [e0]
        by_cases hp : prE x = 0
        · rw [sloS_S hx hrg.sl k hp]
        · rw [if_neg hp, if_neg hp]
      have hqS : saS x (fun _ => (k : Int)) 1 = sqS x (k : Int) := by
        unfold saS sqS
        rw [hqE, e0]
        by_cases hz : sqE x (k : Int) = 0
        · have hp : prE x = 0 := by
            rw [hs] at hz
            by_cases hp : prE x = 0
            · exact hp
            · rw [if_neg hp] at hz; exact absurd hz hp
          rw [if_pos hz, if_pos hz]
          exact (sloS_S hx hrg.sl k hp).symm
        · rw [if_neg hz, if_neg hz]
      have hsa : ∀ (V : World) (g : Nat), Up W0 V → V.heap[g]? = some (.cells #[.int .u64 (k : Int)] 22) → Calls Tryz.prog 13 #[.agg (cel (sState x)), .slice (some ⟨g, 0, none⟩) 1 1] V fun e' w' => ∃ X, e' = .returned (.tuple #[.agg (cel (sState X)), .int .i64 (sqE x (k : Int))]) ∧ Res V.heap.size w' (sqS x (k : Int)) X ∧ Below V.heap.size V w' := fun V g h r => by
        have := slashAll_any x (some ⟨g, 0, none⟩) 1 1 (fun _ => (k : Int)) V hx (hw.below (upT hB0 h)) hn hR (.inr ⟨g, 0, rfl, some_ltK r, fun j hj => (by obtain rfl : j = 0 := (by omega); exact (row_cell (i := 0) r).trans rfl)⟩) (fun j hj => by omega) (by omega) (hS.below (upT hB0 h))
        rw [hqE, hqS] at this
        exact this
      have HSA := hid hsa
      clear hri hB0 hW0 r0 r1 hx hw hn hR hqE hqS hrg hsm hth hkn hi e0 hsa hS hs
      obtain ⟨SE, eSE⟩ : ∃ e, sqE x (k : Int) = e := ⟨_, rfl⟩
      obtain ⟨SS, eSS⟩ : ∃ e, sqS x (k : Int) = e := ⟨_, rfl⟩
      rw [eSE, eSS] at HSA
      rw [eSE, eSS]
      clear eSE eSS
      go_enter Tryz.func5, Tryz.ntmps5
      go_upto_region 1 with fail
      rw [HW.out]
      clear HW
      go_upto_region 3 with (first | (go_at_call 11; refine HRI.out.mono ?_; rintro e' w1a ⟨rfl, hb1⟩; have lx1 := lvState_run (upR hb1 R0.out); have HB1 := hid hb1; clear hb1) | (go_at_call 12; refine (HTH.out _).mono ?_; rintro e' w1 ⟨rfl, hb1b⟩))
      have hb1 := upT HB1.out hb1b
      replace lx1 := lvState_run (upR hb1 R0.out)
      obtain ⟨W2, g2, hW2, eg2, r2, hd2, _⟩ := upN2 hb1 (.cells #[.int .u64 (k : Int)] 22)
      have hsb := HSA.out W2 g2 (upT hb1 hd2) r2
      have HSB := hid hsb
      have HU2 := hid (upT HB.out (upT hb1 hd2))
      have Q1 := hid (upR (upT hb1 hd2) R1.out)
      have HW2 := hid hW2
      have EG2 := hid eg2
      clear hb1 hb1b HB1 HSA hsb r2 hd2 HRI HTH R0 R1 HB lx hW2 eg2
      go_wp2_with (go_at_call 13; rw [HW2.out, EG2.out]; refine HSB.out.mono ?_; rintro e' w3 ⟨X, rfl, hrs, hb3⟩; have s1 := svState_run (upR hb3 Q1.out) X; have HRS := hid hrs; have HB3 := hid hb3; clear hrs hb3)
      have R3 := upR HB3.out Q1.out
      exact retState 4 5 (w.heap.size + 1) X 49 (.int .i64 SE) rfl rfl rfl rfl (setRow_at R3) ⟨X, rfl, ⟨HRS.out.sim, HRS.out.inw.kept (HRS.out.new.aw (some_ltK Q1.out)) ((Kept.refl _ _).setRow _), HRS.out.nil, HRS.out.new.mono HU2.out.size⟩, below_row (upT HU2.out HB3.out) (by omega) _⟩
    · rw [decide_eq_false hi] at hth
      have HTH := hid hth
      have eE : sqE x i = 1 := by unfold sqE; rw [if_neg (fun h => hi h.2)]
      have eS : sqS x i = oState := by unfold sqS; rw [eE]; rfl
      rw [eE, eS]
      clear hri hB0 hW0 r0 r1 hx hw hn eE eS hsm hR hth hi
      go_enter Tryz.func5, Tryz.ntmps5
      go_upto_region 1 with fail
      rw [HW.out]
      clear HW z
      go_wp2_with (first | (go_at_call 11; refine HRI.out.mono ?_; rintro e' w1 ⟨rfl, hb1⟩; have lx1 := lvState_run (upR hb1 R0.out); have HB1 := hid hb1; clear hb1) | (go_at_call 12; refine (HTH.out _).mono ?_; rintro e' w1b ⟨rfl, hb1b⟩; have hu := upT HB1.out hb1b; have s1 := svState_run (upR hu R1.out) oState))
      exact retState 4 5 (w.heap.size + 1) oState 49 (.int .i64 1) rfl rfl rfl rfl (setRow_at (upR hu R1.out)) ⟨oState, rfl, resO _ _, below_row (upT HB.out hu) (by omega) _⟩

end Go.Proofs.YtlplmdhlelgihaaGreatDoor
