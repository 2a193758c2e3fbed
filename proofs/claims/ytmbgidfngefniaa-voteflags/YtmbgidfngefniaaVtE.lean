/-
  VoteFlags and VoteLater.
-/

import Derived.Test.YtmbgidfngefniaaVtC
import Derived.Test.YtmbgidfngefniaaVtD
import Derived.Test.YtmbgidfngefniaaStI
import Derived.Test.YtmbgidfngefniaaTyData
import Derived.Test.YtmbgidfngefniaaStN
namespace Go.Proofs.Ytmbgidfngefniaa

open Go.RowKit

set_option linter.unusedVariables false

set_option linter.unusedSimpArgs false

set_option maxRecDepth 20000

/-- The state and the datas of the statements' own awake. -/
def XT : VState := { oState with f2 := 1 }

def dT : VData := { oData with f0 := 1 }

theorem bd_xT (W : World) : (bdState #[(2, .int .u64 1)]).run Try.prog W = .ok (.agg (cel (sState XT))) W := by kernel_rfl

theorem bd_dT (W : World) : (bdData #[(0, .int .u64 1)]).run Try.prog W = .ok (.agg (cel (sData dT))) W := by kernel_rfl

theorem ok_oState : OkState oState := by
  have z : (0 : Int) ≤ 0 ∧ (0 : Int) < 256 := by decide
  have z6 : (0 : Int) ≤ 0 ∧ (0 : Int) < 18446744073709551616 := by decide
  have hk : ∀ c : VCheckpoint, c = oCheckpoint → OkCheckpoint c := fun c e => by rw [e]; exact okoCheckpoint
  exact {
    o0 := z6, o1 := fun _ _ => z, o2 := z6, o3 := by refine ⟨?_, ?_, ?_⟩ <;> first | exact z6 | exact fun _ _ => z
    o4 := by refine ⟨?_, ?_, ?_, ?_, ?_⟩ <;> first | exact z6 | exact fun _ _ => z
    o5 := fun _ _ => z, o6 := fun _ _ => z, o7 := fun _ _ => z
    o8 := by refine ⟨?_, ?_, ?_⟩ <;> first | exact z6 | exact fun _ _ => z
    o9 := fun j hj => absurd hj (Nat.not_lt_zero _), o10 := z6, o11 := fun j hj => absurd hj (Nat.not_lt_zero _), o12 := fun j hj => absurd hj (Nat.not_lt_zero _)
    o13 := fun _ _ => z, o14 := fun _ _ => z6, o15 := fun j hj => absurd hj (Nat.not_lt_zero _), o16 := fun j hj => absurd hj (Nat.not_lt_zero _)
    o18 := hk _ rfl, o19 := hk _ rfl, o20 := hk _ rfl, o21 := fun j hj => absurd hj (Nat.not_lt_zero _)
    o22 := by refine ⟨?_, ?_⟩ <;> exact fun _ _ => z
    o23 := by refine ⟨?_, ?_⟩ <;> exact fun _ _ => z }

theorem ok_xT : OkState XT := { ok_oState with o2 := by show (0 : Int) ≤ 1 ∧ (1 : Int) < _; omega }

theorem in_xT (w : World) : InW w XT := ⟨.inl ⟨rfl, rfl, rfl⟩, .inl rfl, .inl rfl, .inl rfl, .inl ⟨rfl, rfl, rfl⟩, .inl ⟨rfl, rfl, rfl⟩, .inl rfl⟩

theorem ls_xT : Ls XT := ⟨Nat.zero_le _, Nat.zero_le _, Nat.zero_le _⟩

theorem ok_dT : OkData dT := ⟨⟨by decide, by decide⟩, okoData.2⟩

theorem fl_xT : flE XT oData = 0 ∧ flV XT oData = b3 true true true ∧ flE XT dT = 31 ∧ flV XT dT = b3 false false false := ⟨by kernel_rfl, by kernel_rfl, by kernel_rfl, by kernel_rfl⟩

attribute [local go_sem ↓] lvState_eq svState_eq bdState_eq lvData_eq svData_eq bdData_eq lvF_eq svF_eq bdF_eq eqoF_eq

set_option maxHeartbeats 4000000 in
theorem awake19 (pF : PFlags) (w : World) : Calls Try.prog 5 #[] w fun e' w' => e' = .returned (.bool true) ∧ Below w.heap.size w w' := by
  have b1 := bd_xT
  have b2 := bd_dT
  have b0 := bdData_0
  have zs := zeroState
  have zf := zeroF
  obtain ⟨e1, e2, e3, e4⟩ := fl_xT
  have hf1 : ∀ W : World, Calls Try.prog 6 #[.agg (cel (sState XT)), .agg (cel (sData oData))] W fun e' w' => e' = .returned (.tuple #[.agg (b3 true true true), .int .i64 0]) ∧ Below W.heap.size W w' := fun W => by
    have := pF XT oData W ok_xT (in_xT W) ls_xT okoData
    rw [e1, e2] at this
    exact this
  have hf2 : ∀ W : World, Calls Try.prog 6 #[.agg (cel (sState XT)), .agg (cel (sData dT))] W fun e' w' => e' = .returned (.tuple #[.agg (b3 false false false), .int .i64 31]) ∧ Below W.heap.size W w' := fun W => by
    have := pF XT dT W ok_xT (in_xT W) ls_xT ok_dT
    rw [e3, e4] at this
    exact this
  obtain ⟨xo, exo⟩ : ∃ x, oState = x := ⟨_, rfl⟩
  obtain ⟨X, eX⟩ : ∃ x, XT = x := ⟨_, rfl⟩
  obtain ⟨D0, eD0⟩ : ∃ x, oData = x := ⟨_, rfl⟩
  obtain ⟨D1, eD1⟩ : ∃ x, dT = x := ⟨_, rfl⟩
  have sx := svState_newv w xo X
  rw [exo] at zs
  rw [eX] at b1
  simp only [eX, eD0, eD1] at hf1 hf2 b0 b2
  obtain ⟨W0, y0, hW0, ey0, r0, hd0, _⟩ := upN2 (Below.refl w.heap.size w) (.cells (cel (sState X)) 49)
  have HF1 := hid hf1
  have HF2 := hid hf2
  have R0 := hid r0
  have HD0 := hid hd0
  have HW0 := hid hW0
  have EY := hid ey0
  clear hf1 hf2 e1 e2 e3 e4 exo eX eD0 eD1 r0 hd0 hW0 ey0
  go_enter Try.func5, Try.ntmps5
  go_upto_region 2 with fail
  rw [HW0.out, EY.out]
  have lx := lvState_run R0.out
  clear sx b1 zs
  have v1 := fun W => svF_newv W false false false true true true
  go_upto_region 3 with (go_at_call 6; refine (HF1.out _).mono ?_; rintro e' w1 ⟨rfl, hb1⟩)
  obtain ⟨W1, y1, hW1, ey1, r1, hd1, _⟩ := upN2 hb1 (.cells (b3 true true true) 53)
  rw [hW1, ey1]
  have HU1 := hid (upT hb1 hd1)
  have R1 := hid r1
  clear lx v1 hW1 ey1 hb1 hd1 r1
  have lx := lvState_run (upR HU1.out R0.out)
  have v2 := fun W => svF_newv W false false false false false false
  go_upto_region 4 with (go_at_call 6; refine (HF2.out _).mono ?_; rintro e' w2 ⟨rfl, hb2⟩)
  obtain ⟨W2, y2, hW2, ey2, r2, hd2, _⟩ := upN2 hb2 (.cells (b3 false false false) 53)
  rw [hW2, ey2]
  have lf := lvF_run (upR (upT hb2 hd2) R1.out)
  have bb := fun W => bdF_3 W true true true
  have qq := fun W => eqoF_run W true true true
  have HU2 := hid (upT HU1.out (upT hb2 hd2))
  clear lx v2 hW2 ey2 hb2 hd2 r2
  go_wp2
  go_ret
  exact ⟨rfl, upT HD0.out HU2.out⟩

set_option maxHeartbeats 4000000 in
theorem voteFlags_law (pF : PFlags) (x : VState) (d : VData) (w : World) (hx : OkState x) (hw : InW w x) (hl : Ls x) (hd : OkData d) :
    Calls Try.prog 3 #[.agg (cel (sState x)), .agg (cel (sData d))] w fun e' w' => e' = .returned (.bool true) ∧ Below w.heap.size w w' := by
  obtain ⟨W0, hW0, r0, r1, hB0, _⟩ := two_blocks x d w
  have hlx : ∀ W, Up W0 W → (lvState ⟨w.heap.size, 0, none⟩).run Try.prog W = .ok (.agg (cel (sState x))) W := fun W h => lvState_run (upR h r0)
  have hld : ∀ W, Up W0 W → (lvData ⟨w.heap.size + 1, 0, none⟩).run Try.prog W = .ok (.agg (cel (sData d))) W := fun W h => lvD_row (upR h r1)
  have haw := awake19 pF W0
  have hp := fun (W : World) (h : Up W0 W) => pF x d W hx (hw.below (upT hB0 h)) hl hd
  have hr := fun (W : World) (h : Up W0 W) => rflags_any x d W hx (hw.below (upT hB0 h)) hd
  obtain ⟨f0, f1, f2, ef⟩ : ∃ a b c, flV x d = b3 a b c := by
    unfold flV
    split
    · exact ⟨_, _, _, rfl⟩
    · exact ⟨_, _, _, rfl⟩
  simp only [ef] at hp hr
  generalize flE x d = E at *
  have HB := hid hB0
  have HW := hid hW0
  have HLX := hid hlx
  have HLD := hid hld
  have HAW := hid haw
  have HP := hid hp
  have HR := hid hr
  clear hB0 hW0 r0 r1 hlx hld haw hp hr hx hw hl hd ef pF
  have zf := zeroF
  go_enter Try.func3, Try.ntmps3
  go_upto_region 1 with fail
  rw [HW.out]
  clear HW
  go_upto_region 3 with (go_at_call 5; refine HAW.out.mono ?_; rintro e' w1 ⟨rfl, hb1⟩)
  have lx := HLX.out w1 hb1
  have ld := HLD.out w1 hb1
  have v1 := fun W => svF_newv W false false false f0 f1 f2
  have HU1 := hid hb1
  clear hb1
  go_upto_region 4 with (go_at_call 6; refine (HP.out w1 HU1.out).mono ?_; rintro e' w2 ⟨rfl, hb2⟩)
  obtain ⟨W2, y2, hW2, ey2, r2, hd2, _⟩ := upN2 hb2 (.cells (b3 f0 f1 f2) 53)
  rw [hW2, ey2]
  have HU2 := hid (upT HU1.out (upT hb2 hd2))
  have R2 := hid r2
  clear lx ld hW2 ey2 hb2 hd2 r2
  have lx := HLX.out W2 HU2.out
  have ld := HLD.out W2 HU2.out
  go_upto_region 5 with (go_at_call 7; refine (HR.out W2 HU2.out).mono ?_; rintro e' w3 ⟨rfl, hb3⟩)
  obtain ⟨W3, y3, hW3, ey3, r3, hd3, _⟩ := upN2 hb3 (.cells (b3 f0 f1 f2) 53)
  rw [hW3, ey3]
  have HU3 := hid (upT HU2.out (upT hb3 hd3))
  have la := lvF_run (upR (upT hb3 hd3) R2.out)
  have lb := lvF_run r3
  have qq := fun W => eqoF_run W f0 f1 f2
  clear lx ld hW3 ey3 hb3 hd3 r3 v1
  go_wp2
  go_ret
  exact ⟨rfl, upT HB.out HU3.out⟩

/-- One slot on. -/
def nxS (x : VState) : VState := { x with f2 := x.f2 + 1 }

theorem tmE_nx {x : VState} {d : VData} (ht : tmE x d = 0) (he : (x.f2 + 1) / 4 = x.f2 / 4) : tmE (nxS x) d = if x.f2 + 1 - d.f0 ≤ 4 then 0 else 31 := by
  obtain ⟨h1, h2, h3⟩ := tmE_ok ht
  unfold tmE at ht
  split at ht
  · rename_i h
    unfold tmE
    show (if (d.f4.f0 = (x.f2 + 1) / 4 ∨ d.f4.f0 = lesV ((x.f2 + 1) / 4) 1) ∧ d.f4.f0 = d.f0 / 4 then (if d.f0 < x.f2 + 1 ∧ x.f2 + 1 - d.f0 ≤ 4 then 0 else 31) else 29) = _
    rw [he, if_pos h]
    by_cases h4 : x.f2 + 1 - d.f0 ≤ 4
    · rw [if_pos h4, if_pos ⟨by omega, h4⟩]
    · rw [if_neg h4, if_neg (fun h => h4 h.2)]
  · omega

theorem flE_ok {x : VState} {d : VData} (h : flE x d = 0) : rightB x = true ∧ tmE x d = 0 ∧ eqK d.f3 (soV x d.f4.f0) = true := by
  unfold flE at h
  split at h
  · rename_i h1
    split at h
    · rename_i h2
      split at h
      · rename_i h3; exact ⟨h1, h2, h3⟩
      · omega
    · rename_i h2; exact absurd h h2
  · omega

theorem flE_nx {x : VState} {d : VData} (h : flE x d = 0) (he : (x.f2 + 1) / 4 = x.f2 / 4) (hr : rightB (nxS x) = true) : flE (nxS x) d = if x.f2 + 1 - d.f0 ≤ 4 then 0 else 31 := by
  obtain ⟨h1, h2, h3⟩ := flE_ok h
  have e : soV (nxS x) d.f4.f0 = soV x d.f4.f0 := by
    show (if d.f4.f0 = (x.f2 + 1) / 4 then x.f19 else x.f18) = _
    rw [he]
    rfl
  unfold flE
  rw [if_pos hr, tmE_nx h2 he, e, h3]
  split
  · rfl
  · rfl

theorem rt_nx {x : VState} {s : Int} (h : s < x.f2) (h8 : x.f2 + 1 - s ≤ 8) : rtV (nxS x) s = rtV x s := by
  show (if s < x.f2 + 1 ∧ x.f2 + 1 - s ≤ 8 then (fun j => x.f5 (32 * (s % 8).toNat + j)) else fun _ => 0) = _
  unfold rtV
  rw [if_pos ⟨by omega, h8⟩, if_pos ⟨h, by omega⟩]

theorem flV_nx {x : VState} {d : VData} (h : flE x d = 0) (he : (x.f2 + 1) / 4 = x.f2 / 4) (hr : rightB (nxS x) = true) (h4 : x.f2 + 1 - d.f0 ≤ 4) : ∃ c, flV (nxS x) d = b3 (decide (x.f2 + 1 - d.f0 ≤ 2)) (wo1 x d) false ∧ flV x d = b3 (decide (x.f2 - d.f0 ≤ 2)) (wo1 x d) c := by
  obtain ⟨h1, h2, h3⟩ := flE_ok h
  obtain ⟨t1, t2, t3⟩ := tmE_ok h2
  refine ⟨wo2 x d, ?_, ?_⟩
  · unfold flV
    rw [flE_nx h he hr, if_pos h4, if_pos rfl]
    have e1 : wo1 (nxS x) d = wo1 x d := by
      unfold wo1
      rw [rt_nx (by omega) (by omega)]
    have e2 : wo2 (nxS x) d = false := by
      unfold wo2
      rw [show decide ((nxS x).f2 - d.f0 = 1) = false from decide_eq_false (by show ¬ x.f2 + 1 - d.f0 = 1; omega), Bool.and_false, Bool.and_false]
    unfold woV
    rw [e1, e2]
    rfl
  · unfold flV
    rw [h, if_pos rfl]
    rfl

theorem ok_nx {x : VState} (h : OkState x) (h1 : x.f2 + 1 < 18446744073709551616) : OkState (nxS x) := { h with o2 := by have := h.o2.1; show 0 ≤ x.f2 + 1 ∧ x.f2 + 1 < _; omega }

theorem in_nx {w : World} {x : VState} (h : InW w x) : InW w (nxS x) := { h with }

attribute [local go_sem ↓] lvState_eq svState_eq bdState_eq lvData_eq svData_eq bdData_eq lvF_eq svF_eq bdF_eq eqoF_eq

set_option maxHeartbeats 8000000 in
theorem voteLater_law (pF : PFlags) (x : VState) (d : VData) (w : World) (hx : OkState x) (hw : InW w x) (hl : Ls x) (hd : OkData d) :
    Calls Try.prog 4 #[.agg (cel (sState x)), .agg (cel (sData d))] w fun e' w' => e' = .returned (.bool true) ∧ Below w.heap.size w w' := by
  obtain ⟨W0, hW0, r0, r1, hB0, _⟩ := two_blocks x d w
  have hld : ∀ W, Up W0 W → (lvData ⟨w.heap.size + 1, 0, none⟩).run Try.prog W = .ok (.agg (cel (sData d))) W := fun W h => lvD_row (upR h r1)
  have hd0 : ∀ W, Up W0 W → W.cell? ⟨w.heap.size + 1, 0, none⟩ = some (.int .u64 d.f0) := fun W h => dC0 (upR h r1)
  have hx2 : ∀ W, Up W0 W → W.cell? ⟨w.heap.size, 33, none⟩ = some (.int .u64 x.f2) := fun W h => cS2 (upR h r0)
  have haw := awake19 pF W0
  have hp := fun (W : World) (h : Up W0 W) => pF x d W hx (hw.below (upT hB0 h)) hl hd
  obtain ⟨f0, f1, f2, ef⟩ : ∃ a b c, flV x d = b3 a b c := by
    unfold flV
    split
    · exact ⟨_, _, _, rfl⟩
    · exact ⟨_, _, _, rfl⟩
  have hw0 := hw.below hB0
  simp only [ef] at hp
  obtain ⟨E, eE⟩ : ∃ e, flE x d = e := ⟨_, rfl⟩
  simp only [eE] at hp
  obtain ⟨p, ep⟩ : ∃ q, x.f2 = q := ⟨_, rfl⟩
  obtain ⟨S, eS⟩ : ∃ q, d.f0 = q := ⟨_, rfl⟩
  simp only [ep] at hx2
  simp only [eS] at hd0
  obtain ⟨Pn, ePn⟩ : ∃ q, IntKind.u64.wrap (p + 1) = q := ⟨_, rfl⟩
  have hst : (cel (sState x)).setIfInBounds 33 (.int .u64 Pn) = cel (sState { x with f2 := Pn }) := st_2 x Pn
  have HST := hid hst
  have HB := hid hB0
  have HW := hid hW0
  have R0 := hid r0
  have HLD := hid hld
  have HD0 := hid hd0
  have HX2 := hid hx2
  have HAW := hid haw
  have HP := hid hp
  clear hB0 hW0 r0 r1 hld hd0 hx2 haw hp hst
  have zf := zeroF
  have zs := zeroState
  by_cases hE0 : E = 0
  · subst hE0
    obtain ⟨hrr, htt, hkk⟩ := flE_ok eE
    obtain ⟨t1, t2, t3⟩ := tmE_ok htt
    have p0 := hx.o2.1
    have pb := (rightB_out hrr).c7
    have s0 := hd.1.1
    rw [ep] at t1 t2 p0 pb
    rw [eS] at t1 t2 s0
    obtain rfl : p + 1 = Pn := by rw [← ePn, IntKind.wrap_u64]; omega
    have eN : ({ x with f2 := p + 1 } : VState) = nxS x := by rw [← ep]; rfl
    rw [eN] at HST
    have HY2 := hid (show (nxS x).f2 = p + 1 from by rw [← ep]; rfl)
    have hxn := ok_nx hx (by rw [ep]; omega)
    have hri := fun (W : World) (h : Up W0 W) => rright_any (nxS x) W hxn.r' (in_nx (hw0.below h)).r' ⟨hx.o10.1, hx.o4.1.1, hx.o18.1.1, hx.o19.1.1, hx.o20.1.1⟩
    obtain ⟨q0, eq0⟩ : ∃ q, p / 4 = q := ⟨_, rfl⟩
    obtain ⟨q1, eq1⟩ : ∃ q, (p + 1) / 4 = q := ⟨_, rfl⟩
    have u0 : p.tdiv 4 = q0 := by rw [Int.tdiv_eq_ediv_of_nonneg p0]; exact eq0
    have u1 : (p + 1).tdiv 4 = q1 := by rw [Int.tdiv_eq_ediv_of_nonneg (by omega)]; exact eq1
    have m0 : IntKind.u64.wrap q0 = q0 := by rw [IntKind.wrap_u64]; omega
    have m1 : IntKind.u64.wrap q1 = q1 := by rw [IntKind.wrap_u64]; omega
    have p1 : 0 ≤ p + 1 := by omega
    by_cases hq : q1 = q0
    · subst hq
      have hq4 : (x.f2 + 1) / 4 = x.f2 / 4 := by rw [ep, eq0, eq1]
      cases hN : rightB (nxS x)
      · rw [hN] at hri
        have HRI := hid hri
        clear hri hxn hrr htt hkk hq4 hN hx hw hw0 hl hd eE t1 t2 t3 pF eN
        go_enter Try.func4, Try.ntmps4
        go_upto_region 1 with fail
        rw [HW.out]
        clear HW
        go_upto_region 3 with (go_at_call 5; refine HAW.out.mono ?_; rintro e' w1 ⟨rfl, hb1⟩)
        have lx := lvState_run (upR hb1 R0.out)
        have ld := HLD.out w1 hb1
        have v1 := fun W => svF_newv W false false false f0 f1 f2
        have HU1 := hid hb1
        clear hb1
        go_upto_region 4 with (go_at_call 6; refine (HP.out w1 HU1.out).mono ?_; rintro e' w2 ⟨rfl, hb2⟩)
        obtain ⟨W2, y2, hW2, ey2, r2, hd2, _⟩ := upN2 hb2 (.cells (b3 f0 f1 f2) 53)
        rw [hW2, ey2]
        have HU2 := hid (upT HU1.out (upT hb2 hd2))
        have R2 := hid r2
        clear lx ld hW2 ey2 hb2 hd2 r2 v1
        have lx := lvState_run (upR HU2.out R0.out)
        obtain ⟨xo, exo⟩ : ∃ x, oState = x := ⟨_, rfl⟩
        have sx := svState_newv W2 xo x
        rw [exo] at zs
        clear exo
        go_upto_region 5 with fail
        clear sx zs lx
        obtain ⟨W3, y3, hW3, ey3, r3, hd3, _⟩ := upN2 (Below.refl W2.heap.size W2) (.cells (cel (sState x)) 49)
        rw [hW3, ey3]
        have c33 : W3.cell? ⟨y3, 33, none⟩ = some (.int .u64 p) := by rw [← ep]; exact cS2 r3
        have f33 := row_frozen r3 33
        have x33 := HX2.out W3 (upT HU2.out hd3)
        go_upto_region 6 with fail
        obtain ⟨W4, hW4⟩ : ∃ W, W3.setCell ⟨y3, 33, none⟩ (.int .u64 (p + 1)) = W := ⟨_, rfl⟩
        rw [hW4]
        have r4 : W4.heap[y3]? = some (.cells (cel (sState (nxS x))) 49) := by rw [← hW4, ← HST.out]; exact row_set r3 33 _
        have hz3 : W2.heap.size ≤ y3 := by omega
        have hd4 : Up W2 W4 := by rw [← hW4]; exact hd3.trans (((Kept.refl y3 W3).setCell 33 _).below hz3 hd3.size)
        have HU4 := hid (upT HU2.out hd4)
        have R24 := hid (upR hd4 R2.out)
        have R4 := hid r4
        clear hW3 ey3 hW4 c33 f33 x33 r3 hd3 hd4 HST
        have c33 := cS2 r4
        rw [HY2.out] at c33
        have x33 := HX2.out W4 HU4.out
        have d00 := HD0.out W4 HU4.out
        clear r4
        have ly := lvState_run R4.out
        go_wp2_with (go_at_call 8; refine (HRI.out W4 HU4.out).mono ?_; rintro e' w5 ⟨rfl, hb5⟩)
        go_ret
        exact ⟨rfl, upT HB.out (upT HU4.out hb5)⟩
      · have hpn := fun (W : World) (h : Up W0 W) => pF (nxS x) d W hxn (in_nx (hw0.below h)) hl hd
        rw [hN] at hri
        have HRI := hid hri
        by_cases h4 : x.f2 + 1 - d.f0 ≤ 4
        · obtain ⟨c, hv1, hv2⟩ := flV_nx eE hq4 hN h4
          have hfe := flE_nx eE hq4 hN
          rw [if_pos h4] at hfe
          simp only [hfe, hv1] at hpn
          rw [ef] at hv2
          obtain ⟨B, eB⟩ : ∃ b, wo1 x d = b := ⟨_, rfl⟩
          simp only [eB, ep, eS] at hpn
          rw [eB, ep, eS] at hv2
          obtain ⟨rfl, rfl, rfl⟩ : f0 = decide (p - S ≤ 2) ∧ f1 = B ∧ f2 = c := by
            unfold b3 at hv2
            have := congrArg Array.toList hv2
            simpa using this
          by_cases hg : p + 1 - S ≤ 2
          · rw [show decide (p + 1 - S ≤ 2) = true from decide_eq_true hg] at hpn
            have hg2 : decide (p - S ≤ 2) = true := decide_eq_true (by omega)
            have HPN := hid hpn
            rw [hg2] at HP
            clear hri hpn hxn hrr htt hkk hq4 hN hx hw hw0 hl hd eE t1 t2 t3 pF eN hv1 hv2 hfe h4 hg hg2 eB ef
            go_enter Try.func4, Try.ntmps4
            go_upto_region 1 with fail
            rw [HW.out]
            clear HW
            go_upto_region 3 with (go_at_call 5; refine HAW.out.mono ?_; rintro e' w1 ⟨rfl, hb1⟩)
            have lx := lvState_run (upR hb1 R0.out)
            have ld := HLD.out w1 hb1
            have v1 := fun W => svF_newv W false false false true f1 f2
            have HU1 := hid hb1
            clear hb1
            go_upto_region 4 with (go_at_call 6; refine (HP.out w1 HU1.out).mono ?_; rintro e' w2 ⟨rfl, hb2⟩)
            obtain ⟨W2, y2, hW2, ey2, r2, hd2, _⟩ := upN2 hb2 (.cells (b3 true f1 f2) 53)
            rw [hW2, ey2]
            have HU2 := hid (upT HU1.out (upT hb2 hd2))
            have R2 := hid r2
            clear lx ld hW2 ey2 hb2 hd2 r2 v1
            have lx := lvState_run (upR HU2.out R0.out)
            obtain ⟨xo, exo⟩ : ∃ x, oState = x := ⟨_, rfl⟩
            have sx := svState_newv W2 xo x
            rw [exo] at zs
            clear exo
            go_upto_region 5 with fail
            clear sx zs lx
            obtain ⟨W3, y3, hW3, ey3, r3, hd3, _⟩ := upN2 (Below.refl W2.heap.size W2) (.cells (cel (sState x)) 49)
            rw [hW3, ey3]
            have c33 : W3.cell? ⟨y3, 33, none⟩ = some (.int .u64 p) := by rw [← ep]; exact cS2 r3
            have f33 := row_frozen r3 33
            have x33 := HX2.out W3 (upT HU2.out hd3)
            go_upto_region 6 with fail
            obtain ⟨W4, hW4⟩ : ∃ W, W3.setCell ⟨y3, 33, none⟩ (.int .u64 (p + 1)) = W := ⟨_, rfl⟩
            rw [hW4]
            have r4 : W4.heap[y3]? = some (.cells (cel (sState (nxS x))) 49) := by rw [← hW4, ← HST.out]; exact row_set r3 33 _
            have hz3 : W2.heap.size ≤ y3 := by omega
            have hd4 : Up W2 W4 := by rw [← hW4]; exact hd3.trans (((Kept.refl y3 W3).setCell 33 _).below hz3 hd3.size)
            have HU4 := hid (upT HU2.out hd4)
            have R24 := hid (upR hd4 R2.out)
            have R4 := hid r4
            clear hW3 ey3 hW4 c33 f33 x33 r3 hd3 hd4 HST
            have c33 := cS2 r4
            rw [HY2.out] at c33
            have x33 := HX2.out W4 HU4.out
            have d00 := HD0.out W4 HU4.out
            clear r4
            have ly := lvState_run R4.out
            go_upto_region 8 with (go_at_call 8; refine (HRI.out W4 HU4.out).mono ?_; rintro e' w5 ⟨rfl, hb5⟩)
            have HU5 := hid (upT HU4.out hb5)
            have R45 := hid (upR hb5 R4.out)
            have R25 := hid (upR hb5 R24.out)
            clear hb5 ly c33 x33 d00
            have ly := lvState_run R45.out
            have ld := HLD.out w5 HU5.out
            have v1 := fun W => svF_newv W false false false true f1 false
            go_upto_region 9 with (go_at_call 6; refine (HPN.out w5 HU5.out).mono ?_; rintro e' w6 ⟨rfl, hb6⟩)
            obtain ⟨W7, y7, hW7, ey7, r7, hd7, _⟩ := upN2 hb6 (.cells (b3 true f1 false) 53)
            rw [hW7, ey7]
            have hu7 := upT hb6 hd7
            have c33 := cS2 (upR hu7 R45.out)
            rw [HY2.out] at c33
            have d00 := HD0.out W7 (upT HU5.out hu7)
            have HU7 := hid (upT HU5.out hu7)
            have g0 := row_cell r7 0
            have g1 := row_cell r7 1
            have g2 := row_cell r7 2
            have k0 := row_cell (upR hu7 R25.out) 0
            have k1 := row_cell (upR hu7 R25.out) 1
            simp only [b3, List.getElem?_toArray, List.getElem?_cons_zero, List.getElem?_cons_succ] at g0 g1 g2 k0 k1
            clear hW7 ey7 hb6 hd7 hu7 ly ld v1 r7
            go_wp2
            go_ret
            exact ⟨rfl, upT HB.out HU7.out⟩
          · rw [show decide (p + 1 - S ≤ 2) = false from decide_eq_false hg] at hpn
            have HPN := hid hpn
            obtain ⟨F0, eF0⟩ : ∃ b, decide (p - S ≤ 2) = b := ⟨_, rfl⟩
            rw [eF0] at HP
            clear hri hpn hxn hrr htt hkk hq4 hN hx hw hw0 hl hd eE t1 t2 t3 pF eN hv1 hv2 hfe h4 hg eB ef eF0
            go_enter Try.func4, Try.ntmps4
            go_upto_region 1 with fail
            rw [HW.out]
            clear HW
            go_upto_region 3 with (go_at_call 5; refine HAW.out.mono ?_; rintro e' w1 ⟨rfl, hb1⟩)
            have lx := lvState_run (upR hb1 R0.out)
            have ld := HLD.out w1 hb1
            have v1 := fun W => svF_newv W false false false F0 f1 f2
            have HU1 := hid hb1
            clear hb1
            go_upto_region 4 with (go_at_call 6; refine (HP.out w1 HU1.out).mono ?_; rintro e' w2 ⟨rfl, hb2⟩)
            obtain ⟨W2, y2, hW2, ey2, r2, hd2, _⟩ := upN2 hb2 (.cells (b3 F0 f1 f2) 53)
            rw [hW2, ey2]
            have HU2 := hid (upT HU1.out (upT hb2 hd2))
            have R2 := hid r2
            clear lx ld hW2 ey2 hb2 hd2 r2 v1
            have lx := lvState_run (upR HU2.out R0.out)
            obtain ⟨xo, exo⟩ : ∃ x, oState = x := ⟨_, rfl⟩
            have sx := svState_newv W2 xo x
            rw [exo] at zs
            clear exo
            go_upto_region 5 with fail
            clear sx zs lx
            obtain ⟨W3, y3, hW3, ey3, r3, hd3, _⟩ := upN2 (Below.refl W2.heap.size W2) (.cells (cel (sState x)) 49)
            rw [hW3, ey3]
            have c33 : W3.cell? ⟨y3, 33, none⟩ = some (.int .u64 p) := by rw [← ep]; exact cS2 r3
            have f33 := row_frozen r3 33
            have x33 := HX2.out W3 (upT HU2.out hd3)
            go_upto_region 6 with fail
            obtain ⟨W4, hW4⟩ : ∃ W, W3.setCell ⟨y3, 33, none⟩ (.int .u64 (p + 1)) = W := ⟨_, rfl⟩
            rw [hW4]
            have r4 : W4.heap[y3]? = some (.cells (cel (sState (nxS x))) 49) := by rw [← hW4, ← HST.out]; exact row_set r3 33 _
            have hz3 : W2.heap.size ≤ y3 := by omega
            have hd4 : Up W2 W4 := by rw [← hW4]; exact hd3.trans (((Kept.refl y3 W3).setCell 33 _).below hz3 hd3.size)
            have HU4 := hid (upT HU2.out hd4)
            have R24 := hid (upR hd4 R2.out)
            have R4 := hid r4
            clear hW3 ey3 hW4 c33 f33 x33 r3 hd3 hd4 HST
            have c33 := cS2 r4
            rw [HY2.out] at c33
            have x33 := HX2.out W4 HU4.out
            have d00 := HD0.out W4 HU4.out
            clear r4
            have ly := lvState_run R4.out
            go_upto_region 8 with (go_at_call 8; refine (HRI.out W4 HU4.out).mono ?_; rintro e' w5 ⟨rfl, hb5⟩)
            have HU5 := hid (upT HU4.out hb5)
            have R45 := hid (upR hb5 R4.out)
            have R25 := hid (upR hb5 R24.out)
            clear hb5 ly c33 x33 d00
            have ly := lvState_run R45.out
            have ld := HLD.out w5 HU5.out
            have v1 := fun W => svF_newv W false false false false f1 false
            go_upto_region 9 with (go_at_call 6; refine (HPN.out w5 HU5.out).mono ?_; rintro e' w6 ⟨rfl, hb6⟩)
            obtain ⟨W7, y7, hW7, ey7, r7, hd7, _⟩ := upN2 hb6 (.cells (b3 false f1 false) 53)
            rw [hW7, ey7]
            have hu7 := upT hb6 hd7
            have c33 := cS2 (upR hu7 R45.out)
            rw [HY2.out] at c33
            have d00 := HD0.out W7 (upT HU5.out hu7)
            have HU7 := hid (upT HU5.out hu7)
            have g0 := row_cell r7 0
            have g1 := row_cell r7 1
            have g2 := row_cell r7 2
            have k0 := row_cell (upR hu7 R25.out) 0
            have k1 := row_cell (upR hu7 R25.out) 1
            simp only [b3, List.getElem?_toArray, List.getElem?_cons_zero, List.getElem?_cons_succ] at g0 g1 g2 k0 k1
            clear hW7 ey7 hb6 hd7 hu7 ly ld v1 r7
            go_wp2
            go_ret
            exact ⟨rfl, upT HB.out HU7.out⟩
        · have hfe := flE_nx eE hq4 hN
          rw [if_neg h4] at hfe
          have hfv : flV (nxS x) d = b3 false false false := by unfold flV; rw [hfe, if_neg (by decide)]
          simp only [hfe, hfv] at hpn
          rw [ep, eS] at h4
          have ws : IntKind.u64.wrap (p + 1 - S) = p + 1 - S := by rw [IntKind.wrap_u64]; omega
          have h5 : 4 < p + 1 - S := by omega
          have HPN := hid hpn
          have H4 := hid h5
          clear hri hpn hxn hrr htt hkk hq4 hN hx hw hw0 hl hd eE t1 t2 t3 pF eN hfe hfv h4 ef
          go_enter Try.func4, Try.ntmps4
          go_upto_region 1 with fail
          rw [HW.out]
          clear HW
          go_upto_region 3 with (go_at_call 5; refine HAW.out.mono ?_; rintro e' w1 ⟨rfl, hb1⟩)
          have lx := lvState_run (upR hb1 R0.out)
          have ld := HLD.out w1 hb1
          have v1 := fun W => svF_newv W false false false f0 f1 f2
          have HU1 := hid hb1
          clear hb1
          go_upto_region 4 with (go_at_call 6; refine (HP.out w1 HU1.out).mono ?_; rintro e' w2 ⟨rfl, hb2⟩)
          obtain ⟨W2, y2, hW2, ey2, r2, hd2, _⟩ := upN2 hb2 (.cells (b3 f0 f1 f2) 53)
          rw [hW2, ey2]
          have HU2 := hid (upT HU1.out (upT hb2 hd2))
          have R2 := hid r2
          clear lx ld hW2 ey2 hb2 hd2 r2 v1
          have lx := lvState_run (upR HU2.out R0.out)
          obtain ⟨xo, exo⟩ : ∃ x, oState = x := ⟨_, rfl⟩
          have sx := svState_newv W2 xo x
          rw [exo] at zs
          clear exo
          go_upto_region 5 with fail
          clear sx zs lx
          obtain ⟨W3, y3, hW3, ey3, r3, hd3, _⟩ := upN2 (Below.refl W2.heap.size W2) (.cells (cel (sState x)) 49)
          rw [hW3, ey3]
          have c33 : W3.cell? ⟨y3, 33, none⟩ = some (.int .u64 p) := by rw [← ep]; exact cS2 r3
          have f33 := row_frozen r3 33
          have x33 := HX2.out W3 (upT HU2.out hd3)
          go_upto_region 6 with fail
          obtain ⟨W4, hW4⟩ : ∃ W, W3.setCell ⟨y3, 33, none⟩ (.int .u64 (p + 1)) = W := ⟨_, rfl⟩
          rw [hW4]
          have r4 : W4.heap[y3]? = some (.cells (cel (sState (nxS x))) 49) := by rw [← hW4, ← HST.out]; exact row_set r3 33 _
          have hz3 : W2.heap.size ≤ y3 := by omega
          have hd4 : Up W2 W4 := by rw [← hW4]; exact hd3.trans (((Kept.refl y3 W3).setCell 33 _).below hz3 hd3.size)
          have HU4 := hid (upT HU2.out hd4)
          have R24 := hid (upR hd4 R2.out)
          have R4 := hid r4
          clear hW3 ey3 hW4 c33 f33 x33 r3 hd3 hd4 HST
          have c33 := cS2 r4
          rw [HY2.out] at c33
          have x33 := HX2.out W4 HU4.out
          have d00 := HD0.out W4 HU4.out
          clear r4
          have ly := lvState_run R4.out
          go_upto_region 8 with (go_at_call 8; refine (HRI.out W4 HU4.out).mono ?_; rintro e' w5 ⟨rfl, hb5⟩)
          have HU5 := hid (upT HU4.out hb5)
          have R45 := hid (upR hb5 R4.out)
          have R25 := hid (upR hb5 R24.out)
          clear hb5 ly c33 x33 d00
          have ly := lvState_run R45.out
          have ld := HLD.out w5 HU5.out
          have v1 := fun W => svF_newv W false false false false false false
          go_upto_region 9 with (go_at_call 6; refine (HPN.out w5 HU5.out).mono ?_; rintro e' w6 ⟨rfl, hb6⟩)
          obtain ⟨W7, y7, hW7, ey7, r7, hd7, _⟩ := upN2 hb6 (.cells (b3 false false false) 53)
          rw [hW7, ey7]
          have hu7 := upT hb6 hd7
          have c33 := cS2 (upR hu7 R45.out)
          rw [HY2.out] at c33
          have d00 := HD0.out W7 (upT HU5.out hu7)
          have HU7 := hid (upT HU5.out hu7)
          have g0 := row_cell r7 0
          have g1 := row_cell r7 1
          have g2 := row_cell r7 2
          have k0 := row_cell (upR hu7 R25.out) 0
          have k1 := row_cell (upR hu7 R25.out) 1
          simp only [b3, List.getElem?_toArray, List.getElem?_cons_zero, List.getElem?_cons_succ] at g0 g1 g2 k0 k1
          clear hW7 ey7 hb6 hd7 hu7 ly ld v1 r7
          go_wp2
          go_ret
          exact ⟨rfl, upT HB.out HU7.out⟩
    · have hq2 : (q1 != q0) = true := by simp [hq]
      clear hri hxn hrr htt hkk hx hw hw0 hl hd eE t1 t2 t3 pF eN
      go_enter Try.func4, Try.ntmps4
      go_upto_region 1 with fail
      rw [HW.out]
      clear HW
      go_upto_region 3 with (go_at_call 5; refine HAW.out.mono ?_; rintro e' w1 ⟨rfl, hb1⟩)
      have lx := lvState_run (upR hb1 R0.out)
      have ld := HLD.out w1 hb1
      have v1 := fun W => svF_newv W false false false f0 f1 f2
      have HU1 := hid hb1
      clear hb1
      go_upto_region 4 with (go_at_call 6; refine (HP.out w1 HU1.out).mono ?_; rintro e' w2 ⟨rfl, hb2⟩)
      obtain ⟨W2, y2, hW2, ey2, r2, hd2, _⟩ := upN2 hb2 (.cells (b3 f0 f1 f2) 53)
      rw [hW2, ey2]
      have HU2 := hid (upT HU1.out (upT hb2 hd2))
      have R2 := hid r2
      clear lx ld hW2 ey2 hb2 hd2 r2 v1
      have lx := lvState_run (upR HU2.out R0.out)
      obtain ⟨xo, exo⟩ : ∃ x, oState = x := ⟨_, rfl⟩
      have sx := svState_newv W2 xo x
      rw [exo] at zs
      clear exo
      go_upto_region 5 with fail
      clear sx zs lx
      obtain ⟨W3, y3, hW3, ey3, r3, hd3, _⟩ := upN2 (Below.refl W2.heap.size W2) (.cells (cel (sState x)) 49)
      rw [hW3, ey3]
      have c33 : W3.cell? ⟨y3, 33, none⟩ = some (.int .u64 p) := by rw [← ep]; exact cS2 r3
      have f33 := row_frozen r3 33
      have x33 := HX2.out W3 (upT HU2.out hd3)
      go_upto_region 6 with fail
      obtain ⟨W4, hW4⟩ : ∃ W, W3.setCell ⟨y3, 33, none⟩ (.int .u64 (p + 1)) = W := ⟨_, rfl⟩
      rw [hW4]
      have r4 : W4.heap[y3]? = some (.cells (cel (sState (nxS x))) 49) := by rw [← hW4, ← HST.out]; exact row_set r3 33 _
      have hz3 : W2.heap.size ≤ y3 := by omega
      have hd4 : Up W2 W4 := by rw [← hW4]; exact hd3.trans (((Kept.refl y3 W3).setCell 33 _).below hz3 hd3.size)
      have HU4 := hid (upT HU2.out hd4)
      have R24 := hid (upR hd4 R2.out)
      have R4 := hid r4
      clear hW3 ey3 hW4 c33 f33 x33 r3 hd3 hd4 HST
      have c33 := cS2 r4
      rw [HY2.out] at c33
      have x33 := HX2.out W4 HU4.out
      have d00 := HD0.out W4 HU4.out
      clear r4
      go_wp2
      go_ret
      exact ⟨rfl, upT HB.out HU4.out⟩
  · have hE2 : (E != 0) = true := by simp [hE0]
    clear hx hw hw0 hl hd eE pF ef
    go_enter Try.func4, Try.ntmps4
    go_upto_region 1 with fail
    rw [HW.out]
    clear HW
    go_upto_region 3 with (go_at_call 5; refine HAW.out.mono ?_; rintro e' w1 ⟨rfl, hb1⟩)
    have lx := lvState_run (upR hb1 R0.out)
    have ld := HLD.out w1 hb1
    have v1 := fun W => svF_newv W false false false f0 f1 f2
    have HU1 := hid hb1
    clear hb1
    go_upto_region 4 with (go_at_call 6; refine (HP.out w1 HU1.out).mono ?_; rintro e' w2 ⟨rfl, hb2⟩)
    obtain ⟨W2, y2, hW2, ey2, r2, hd2, _⟩ := upN2 hb2 (.cells (b3 f0 f1 f2) 53)
    rw [hW2, ey2]
    have HU2 := hid (upT HU1.out (upT hb2 hd2))
    have R2 := hid r2
    clear lx ld hW2 ey2 hb2 hd2 r2 v1
    have lx := lvState_run (upR HU2.out R0.out)
    obtain ⟨xo, exo⟩ : ∃ x, oState = x := ⟨_, rfl⟩
    have sx := svState_newv W2 xo x
    rw [exo] at zs
    clear exo
    go_upto_region 5 with fail
    clear sx zs lx
    obtain ⟨W3, y3, hW3, ey3, r3, hd3, _⟩ := upN2 (Below.refl W2.heap.size W2) (.cells (cel (sState x)) 49)
    rw [hW3, ey3]
    have c33 : W3.cell? ⟨y3, 33, none⟩ = some (.int .u64 p) := by rw [← ep]; exact cS2 r3
    have f33 := row_frozen r3 33
    have x33 := HX2.out W3 (upT HU2.out hd3)
    go_upto_region 6 with fail
    obtain ⟨W4, hW4⟩ : ∃ W, W3.setCell ⟨y3, 33, none⟩ (.int .u64 Pn) = W := ⟨_, rfl⟩
    rw [hW4]
    have r4 : W4.heap[y3]? = some (.cells (cel (sState ({ x with f2 := Pn }))) 49) := by rw [← hW4, ← HST.out]; exact row_set r3 33 _
    have hz3 : W2.heap.size ≤ y3 := by omega
    have hd4 : Up W2 W4 := by rw [← hW4]; exact hd3.trans (((Kept.refl y3 W3).setCell 33 _).below hz3 hd3.size)
    have HU4 := hid (upT HU2.out hd4)
    have R24 := hid (upR hd4 R2.out)
    have R4 := hid r4
    clear hW3 ey3 hW4 c33 f33 x33 r3 hd3 hd4 HST
    have c33 : W4.cell? ⟨y3, 33, none⟩ = some (.int .u64 Pn) := cS2 r4
    have x33 := HX2.out W4 HU4.out
    have d00 := HD0.out W4 HU4.out
    clear r4
    go_wp2
    go_ret
    exact ⟨rfl, upT HB.out HU4.out⟩

end Go.Proofs.Ytmbgidfngefniaa
