/-
  SlashLeaves.
-/

import Derived.Test.YtpnpmgeokicpjaaGreatDoorSlF
import Derived.Test.YtpnpmgeokicpjaaGreatDoorQN
import Derived.Test.YtpnpmgeokicpjaaGreatDoorQS
import Derived.Test.YtpnpmgeokicpjaaGreatDoorQF
import Derived.Test.YtpnpmgeokicpjaaGreatDoorSlR
namespace Go.Proofs.YtpnpmgeokicpjaaGreatDoor

open Go.RowKit

set_option linter.unusedVariables false

set_option linter.unusedSimpArgs false

set_option maxRecDepth 20000

/-- What the program's functions of layer 18 have to answer. -/
def PLeav : Prop := ∀ (x : VState) (i : Int) (w : World), OkState x → InW w x → NilW x → Lns x → 0 ≤ i → Calls Tryz.prog 6 #[.agg (cel (sState x)), .int .u64 i] w fun e' w' => ∃ X, e' = .returned (.tuple #[.agg (cel (sState X)), .int .i64 (lqE x i)]) ∧ Res w.heap.size w' (lqS x i) X ∧ Below w.heap.size w w'

def PSlas : Prop := ∀ (x : VState) (i : Int) (w : World), OkState x → InW w x → NilW x → Lns x → 0 ≤ i → Sh w → Calls Tryz.prog 8 #[.agg (cel (sState x)), .int .u64 i] w fun e' w' => ∃ X, e' = .returned (.tuple #[.agg (cel (sState X)), .int .i64 (sqE x i)]) ∧ Res w.heap.size w' (sqS x i) X ∧ Below w.heap.size w w'

/-- The state of the statements' own awake. -/
def XA (g1 g2 g3 g4 g5 : Nat) : VState := { X2 g1 g2 g3 g4 g5 with f12 := ⟨some ⟨g2, 0, none⟩, 1, 1, fun _ => 32000000000⟩ }

theorem bd_xA (W : World) (g1 g2 g3 g4 g5 : Nat) : (bdState #[(11, .slice (some ⟨g1, 0, none⟩) 1 1), (12, .slice (some ⟨g2, 0, none⟩) 1 1), (15, .slice (some ⟨g3, 0, none⟩) 1 1), (16, .slice (some ⟨g4, 0, none⟩) 1 1), (21, .slice (some ⟨g5, 0, none⟩) 1 1)]).run Tryz.prog W = .ok (.agg (cel (sState (XA g1 g2 g3 g4 g5)))) W := bd_x2 W g1 g2 g3 g4 g5

theorem ok_xA (g1 g2 g3 g4 g5 : Nat) : OkState (XA g1 g2 g3 g4 g5) :=
  { ok_x2 g1 g2 g3 g4 g5 with o12 := fun _ _ => by show (0 : Int) ≤ 32000000000 ∧ (32000000000 : Int) < _; omega }

theorem pr_xA (g1 g2 g3 g4 g5 : Nat) : prE (XA g1 g2 g3 g4 g5) = 0 ∧ prV (XA g1 g2 g3 g4 g5) = 0 := by
  have h0 : prE (XA g1 g2 g3 g4 g5) = 0 := by
    have hL : acE (XA g1 g2 g3 g4 g5) ((XA g1 g2 g3 g4 g5).f2 / 4) = [0] := by kernel_rfl
    unfold prE
    rw [hL]
    exact (dw_rich (by simp) (fun v _ => rfl) (by omega)).1
  refine ⟨h0, ?_⟩
  obtain ⟨p, e, hp⟩ := pr_in h0
  have : p < 1 := hp
  rw [e]
  omega

theorem right_xA (g1 g2 g3 g4 g5 : Nat) : rightB (XA g1 g2 g3 g4 g5) = true ∧ rightB (sloS (XA g1 g2 g3 g4 g5) 0 0) = true ∧ ((sloS (XA g1 g2 g3 g4 g5) 0 0).f11.z 0).f6 = 3 ∧ ((sloS (XA g1 g2 g3 g4 g5) 0 0).f11.z 0).f3 = true ∧ (sloS (XA g1 g2 g3 g4 g5) 0 0).f11.n = 1 :=
  ⟨by kernel_rfl, by kernel_rfl, by kernel_rfl, by kernel_rfl, by kernel_rfl⟩

theorem sq_xA (g1 g2 g3 g4 g5 : Nat) : sqE (XA g1 g2 g3 g4 g5) 0 = 0 ∧ sqS (XA g1 g2 g3 g4 g5) 0 = sloS (XA g1 g2 g3 g4 g5) 0 0 ∧ lqE (XA g1 g2 g3 g4 g5) 1 = 1 := by
  obtain ⟨r1, r2, _⟩ := right_xA g1 g2 g3 g4 g5
  obtain ⟨p1, p2⟩ := pr_xA g1 g2 g3 g4 g5
  have hs : slS (XA g1 g2 g3 g4 g5) 0 = sloS (XA g1 g2 g3 g4 g5) 0 0 := by
    rw [sloS_S (ok_xA ..) (by show (0 : Int) < _; omega) 0 p1, p2]
    rfl
  have h1 : sqE (XA g1 g2 g3 g4 g5) 0 = 0 := by
    unfold sqE
    rw [r1, if_pos ⟨rfl, by show (0 : Int) < 1; omega⟩, p1, if_pos rfl, show ((0 : Int)).toNat = 0 from rfl, hs, r2]
    rfl
  refine ⟨h1, ?_, ?_⟩
  · unfold sqS
    rw [h1, if_pos rfl, show ((0 : Int)).toNat = 0 from rfl, hs]
  · unfold lqE
    rw [if_neg (fun h => by
      have : (1 : Int) < 1 := h.2
      omega)]

attribute [local go_sem ↓] lvState_eq svState_eq bdState_eq lvValidator_eq svValidator_eq ixValidator_eq bvV_eq bsV_eq ixU_eq

set_option maxHeartbeats 4000000 in
theorem awake18 (pL : PLeav) (pS : PSlas) (w : World) (hS : Sh w) :
    Calls Tryz.prog 4 #[] w fun e' w' => e' = .returned (.bool true) ∧ Below w.heap.size w w' := by
  have b1 := bvV_2
  have b2 := bsV_2
  obtain ⟨W5, hW5⟩ : ∃ W, (((((w.alloc (.cells (cel (sValidator oV2)) 60)).alloc (.cells #[.int .u64 32000000000] 22)).alloc (.cells #[.int .u8 0] 5)).alloc (.cells #[.int .u8 0] 5)).alloc (.cells #[.int .u64 0] 22)) = W := ⟨_, rfl⟩
  have v1 : W5.heap[w.heap.size]? = some (.cells (cel (sValidator oV2)) 60) := by rw [← hW5]; exact (heap_old (by simp <;> omega)).trans ((heap_old (by simp <;> omega)).trans ((heap_old (by simp <;> omega)).trans ((heap_old (by simp)).trans (heap_new rfl))))
  have v2 : W5.heap[w.heap.size + 1]? = some (.cells #[.int .u64 32000000000] 22) := by rw [← hW5]; exact (heap_old (by simp <;> omega)).trans ((heap_old (by simp <;> omega)).trans ((heap_old (by simp <;> omega)).trans (heap_new (by simp))))
  have v3 : W5.heap[w.heap.size + 2]? = some (.cells #[.int .u8 0] 5) := by rw [← hW5]; exact (heap_old (by simp <;> omega)).trans ((heap_old (by simp <;> omega)).trans (heap_new (by simp)))
  have v4 : W5.heap[w.heap.size + 3]? = some (.cells #[.int .u8 0] 5) := by rw [← hW5]; exact (heap_old (by simp <;> omega)).trans (heap_new (by simp))
  have v5 : W5.heap[w.heap.size + 4]? = some (.cells #[.int .u64 0] 22) := by rw [← hW5]; exact heap_new (by simp)
  have hB5 : Up w W5 := by rw [← hW5]; go_grown
  obtain ⟨x, ex⟩ : ∃ x, XA w.heap.size (w.heap.size + 1) (w.heap.size + 2) (w.heap.size + 3) (w.heap.size + 4) = x := ⟨_, rfl⟩
  have bd : ∀ W : World, (bdState #[(11, .slice (some ⟨w.heap.size, 0, none⟩) 1 1), (12, .slice (some ⟨w.heap.size + 1, 0, none⟩) 1 1), (15, .slice (some ⟨w.heap.size + 2, 0, none⟩) 1 1), (16, .slice (some ⟨w.heap.size + 3, 0, none⟩) 1 1), (21, .slice (some ⟨w.heap.size + 4, 0, none⟩) 1 1)]).run Tryz.prog W = .ok (.agg (cel (sState x))) W := fun W => by rw [← ex]; exact bd_xA W _ _ _ _ _
  have hq := sq_xA w.heap.size (w.heap.size + 1) (w.heap.size + 2) (w.heap.size + 3) (w.heap.size + 4)
  have hr := right_xA w.heap.size (w.heap.size + 1) (w.heap.size + 2) (w.heap.size + 3) (w.heap.size + 4)
  have hok := ok_xA w.heap.size (w.heap.size + 1) (w.heap.size + 2) (w.heap.size + 3) (w.heap.size + 4)
  have hin : InW W5 x := by
    rw [← ex]
    refine ⟨.inl ⟨rfl, rfl, rfl⟩, .inl rfl, .inr ⟨_, 0, rfl, some_ltK v1, fun i hi => ?_⟩, .inr ⟨_, 0, rfl, some_ltK v2, fun i hi => ?_⟩, .inr (.inr ⟨_, 0, rfl, Nat.le_refl _, by show 1 ≤ _; omega, some_ltK v3, fun i hi => ?_⟩), .inr (.inr ⟨_, 0, rfl, Nat.le_refl _, by show 1 ≤ _; omega, some_ltK v4, fun i hi => ?_⟩), .inr ⟨_, 0, rfl, some_ltK v5, fun i hi => ?_⟩⟩
    · obtain rfl : i = 0 := by have : i < 1 := hi; omega
      exact range_x2 v1
    · obtain rfl : i = 0 := by have : i < 1 := hi; omega
      exact (row_cell (i := 0) v2).trans rfl
    · obtain rfl : i = 0 := by have : i < 1 := hi; omega
      exact (row_cell (i := 0) v3).trans rfl
    · obtain rfl : i = 0 := by have : i < 1 := hi; omega
      exact (row_cell (i := 0) v4).trans rfl
    · obtain rfl : i = 0 := by have : i < 1 := hi; omega
      exact (row_cell (i := 0) v5).trans rfl
  have hni : NilW x := by rw [← ex]; exact ⟨fun _ => ⟨rfl, rfl⟩, fun h => (by cases h), fun h => (by cases h), fun h => (by cases h)⟩
  have hln : Lns x := by rw [← ex]; exact ⟨by show 1 ≤ _; omega, by show 1 ≤ _; omega, by show 1 ≤ _; omega⟩
  rw [ex] at hq hr hok
  have hsl : ∀ W, Up W5 W → Calls Tryz.prog 8 #[.agg (cel (sState x)), .int .u64 0] W fun e' w' => ∃ X, e' = .returned (.tuple #[.agg (cel (sState X)), .int .i64 0]) ∧ Res W.heap.size w' (sloS x 0 0) X ∧ Below W.heap.size W w' := fun W h => by
    have := pS x 0 W hok (hin.below h) hni hln (Int.le_refl _) (hS.below (upT hB5 h))
    rw [hq.1, hq.2.1] at this
    exact this
  have hlv : ∀ W, Up W5 W → Calls Tryz.prog 6 #[.agg (cel (sState x)), .int .u64 1] W fun e' w' => ∃ X, e' = .returned (.tuple #[.agg (cel (sState X)), .int .i64 1]) ∧ Below W.heap.size W w' := fun W h => by
    refine (pL x 1 W hok (hin.below h) hni hln (by omega)).mono ?_
    rintro e' w' ⟨X, rfl, _, hb⟩
    rw [hq.2.2]
    exact ⟨X, rfl, hb⟩
  obtain ⟨_, _, hx6, hx3, hxn⟩ := hr
  obtain ⟨xs, exs⟩ : ∃ s, sloS x 0 0 = s := ⟨_, rfl⟩
  rw [exs] at hsl hx6 hx3 hxn
  have z := zeroState
  obtain ⟨W6, b6, hW6, eb6, r6, hd6, _⟩ := upN2 (Below.refl W5.heap.size W5) (.cells (cel (sState x)) 49)
  have e6 : b6 = w.heap.size + 1 + 1 + 1 + 1 + 1 := by rw [← eb6, ← hW5]; simp
  have s6 : (svState ⟨w.heap.size + 1 + 1 + 1 + 1 + 1, 0, none⟩ (.agg (cel (sState x)))).run Tryz.prog ((((((w.alloc (.cells (cel (sValidator oV2)) 60)).alloc (.cells #[.int .u64 32000000000] 22)).alloc (.cells #[.int .u8 0] 5)).alloc (.cells #[.int .u8 0] 5)).alloc (.cells #[.int .u64 0] 22)).alloc (.cells (cel (sState oState)) 49)) = .ok () W6 := by
    have := svState_newv W5 oState x
    rw [hW6, eb6, e6] at this
    rw [hW5]
    exact this
  have HSL := hid hsl
  have HLV := hid hlv
  have HX := hid (And.intro hx6 (And.intro hx3 hxn))
  have R6 := hid r6
  have HD6 := hid hd6
  have HB5 := hid hB5
  have EB6 := hid eb6
  obtain ⟨ov, eov⟩ : ∃ v, oV2 = v := ⟨_, rfl⟩
  rw [eov] at b1 b2 s6
  have E6 := hid e6
  clear hsl hlv hx6 hx3 hxn r6 hd6 hB5 eb6 hW5 hW6 e6 hin hni hln hok hq pL pS hS v1 v2 v3 v4 v5 ex exs eov
  go_enter Tryz.func4, Tryz.ntmps4
  go_upto_region 2 with fail
  rw [← E6.out]
  clear s6 b1 b2 bd
  have l6 := lvState_run R6.out
  have HSL6 := hid (HSL.out W6 HD6.out)
  go_upto_region 3 with (go_at_call 8; refine HSL6.out.mono ?_; rintro e' w7 ⟨X, rfl, hrs, hb7⟩; have sv := svState_newv w7 oState X)
  obtain ⟨W7, y7, hW7, ey7, r7, hd7, _⟩ := upN2 hb7 (.cells (cel (sState X)) 49)
  rw [hW7, ey7]
  have hu7 := upT hb7 hd7
  have R7 := hid r7
  have HU7 := hid (upT HD6.out hu7)
  have HRS := hid (hrs.below hd7)
  have R67 := hid (upR hu7 R6.out)
  have HLV7 := hid (HLV.out W7 HU7.out)
  clear hW7 ey7 r7 hd7 hb7 hu7 hrs sv HSL HSL6 l6 HLV
  have l6 := lvState_run R67.out
  go_upto_region 4 with (go_at_call 6; refine HLV7.out.mono ?_; rintro e' w8 ⟨X8, rfl, hb8⟩; have sv := svState_newv w8 oState X8)
  obtain ⟨W8, y8, hW8, ey8, r8, hd8, _⟩ := upN2 hb8 (.cells (cel (sState X8)) 49)
  rw [hW8, ey8]
  have hu8 := upT hb8 hd8
  have hrs := HRS.out.below hu8
  have c11 := cS11 (upR hu8 R7.out)
  have hn1 : X.f11.n = 1 := by rw [hrs.sim.l11]; exact HX.out.2.2
  rcases hrs.inw.i11 with h0 | ⟨b, off, ea, hbl, hr⟩
  · omega
  have hr0 := hr 0 (by omega)
  rw [hn1, ea] at c11
  have e6 := val_e6 hr0
  have e3 := val_e3 hr0
  rw [hrs.sim.z11, HX.out.1] at e6
  rw [hrs.sim.z11, HX.out.2.1] at e3
  have ix : ∀ W, (ixValidator (.slice (some ⟨b, off, none⟩) 1 X.f11.c) (.int .i64 0)).run Tryz.prog W = .ok (.pointer (some ⟨b, off + 86 * 0, none⟩)) W := fun W => ixValidator_run W b off 1 X.f11.c 0 (by omega)
  obtain ⟨P, eP⟩ : ∃ P, off + 86 * 0 = P := ⟨_, rfl⟩
  rw [eP] at e6 e3
  simp only [eP] at ix
  have HU8 := hid (upT HB5.out (upT HU7.out hu8))
  generalize X.f11.c = C at c11 ix
  clear hW8 ey8 r8 hd8 hb8 hu8 hrs sv hr hr0 HRS R7 R67 HU7 HB5 HD6 eP ea hn1 l6 HLV7
  go_wp2
  go_ret
  exact ⟨rfl, HU8.out⟩

def ixBo (x i : Value) : Sem Value := Instr.indexAt 50 x i

theorem ixBo_eq (x i : Value) : Instr.indexAt 50 x i = ixBo x i := rfl

theorem ixBo_run (w : World) (b off len cap i : Nat) (h : i < len) : (ixBo (.slice (some ⟨b, off, none⟩) len cap) (.int .i64 i)).run Tryz.prog w = .ok (.pointer (some ⟨b, off + i, none⟩)) w := by
  obtain ⟨ii, hi, _, hs, _⟩ := info_out (P := Tryz.prog) (t := 4) (z := .bool false) (s := 1) (b := 1) (by kernel_rfl)
  have hz : (sizeOf 4).run Tryz.prog w = .ok 1 w := by simp [sizeOf, typeInfo, hi, hs]
  unfold ixBo Instr.indexAt
  have h1 : (0 : Int) ≤ (i : Int) ∧ (i : Int) < (len : Int) := by omega
  simp only [asIntOf, Sem.run_bind, Sem.run_pure, Result.andThen_ok, run_underlying Tryz.underlying50, if_pos h1, hz, Addr.add_mid, Int.toNat_natCast, Nat.mul_one]

attribute [local go_sem ↓] ixBo_eq

/-- What stands from call to call. -/
structure SvI (w : World) (b : Nat) (wr : World) (X : VState) : Prop where
  bel : Up w wr
  row : wr.heap[b]? = some (.cells (cel (sState X)) 49)
  ok : OkState X
  ix : InW wr X
  nx : NilW X
  lx : Lns X
  rc : Rch X
  aw : Aw b X

theorem SvI.up {w wr V : World} {b : Nat} {X : VState} (h : SvI w b wr X) (hb : Up wr V) : SvI w b V X :=
  ⟨upT h.bel hb, upR hb h.row, h.ok, h.ix.below hb, h.nx, h.lx, h.rc, h.aw⟩

theorem rch_sim {X Y : VState} (h : SimF X Y) (hr : Rch X) : Rch Y := by
  unfold Rch at hr ⊢
  rw [h.l7, h.l9, h.l11, h.l12, h.l15, h.l16, h.l21]
  exact hr

theorem SvI.next {w wr V : World} {b : Nat} {X P PS : VState} (h : SvI w b wr X) (hb : Up wr V) (hw : w.heap.size ≤ b) (hp : Res wr.heap.size V PS P) (ho : OkState PS) (hl : Lns PS) (hr : Rch PS) : SvI w b (V.setRow b (cel (sState P))) P := by
  have l := some_ltK h.row
  exact ⟨below_row (upT h.bel hb) hw _, setRow_at (upR hb h.row), okF_sim hp.sim ho, hp.inw.kept (hp.new.aw l) ((Kept.refl _ _).setRow _), hp.nil, lnsS_sim hp.sim hl, rch_sim hp.sim hr, hp.new.aw l⟩

/-- What both sides answered. -/
structure Bth (wr W : World) (y z : Nat) (VE : Int) (P Q PS QS : VState) : Prop where
  rp : W.heap[y]? = some (.cells (cel (sState P)) 49)
  rq : W.heap[z]? = some (.cells (cel (sState Q)) 49)
  hp : Res wr.heap.size W PS P
  hq : Res wr.heap.size W QS Q
  sm : SimF PS QS
  ok : OkState PS
  ln : Lns PS
  rc : VE = 0 → Rch PS
  up : Up wr W

theorem lq_all {x X : VState} (i : Int) (h : OkState x) (hl : Lns x) (hs : SimF x X) : SimF (lqS x i) (lqS X i) ∧ OkState (lqS x i) ∧ Lns (lqS x i) ∧ (lqE x i = 0 → Rch (lqS x i)) := by
  refine ⟨lqS_sim hs i, ?_⟩
  unfold lqS
  by_cases hz : lqE x i = 0
  · rw [if_pos hz]
    have hz2 := hz
    unfold lqE at hz2
    by_cases hc : rightB x = true ∧ i < (x.f11.n : Int)
    · rw [if_pos hc] at hz2
      by_cases hr : rightB (lvS x i.toNat) = true
      · exact ⟨ok_lv h (rightB_out hc.1).c7 _, right_lns hr, fun _ => small_rch hr⟩
      · rw [if_neg hr] at hz2; omega
    · rw [if_neg hc] at hz2; omega
  · rw [if_neg hz]
    exact ⟨ok_z15, lns_z, fun h => absurd h hz⟩

theorem sq_all {x X : VState} (i : Int) (h : OkState x) (hl : Lns x) (hs : SimF x X) (h0 : 0 ≤ i) : SimF (sqS x i) (sqS X i) ∧ OkState (sqS x i) ∧ Lns (sqS x i) ∧ (sqE x i = 0 → Rch (sqS x i)) := by
  refine ⟨sqS_sim hs i, ?_⟩
  unfold sqS
  by_cases hz : sqE x i = 0
  · rw [if_pos hz]
    have hz2 := hz
    unfold sqE at hz2
    by_cases hc : rightB x = true ∧ i < (x.f11.n : Int)
    · rw [if_pos hc] at hz2
      by_cases hp : prE x = 0
      · rw [if_pos hp] at hz2
        by_cases hr : rightB (slS x i.toNat) = true
        · exact ⟨(((rightB_out hc.1).rg h).s i.toNat (by have := hc.2; omega)).ok, right_lns hr, fun _ => small_rch hr⟩
        · rw [if_neg hr] at hz2; omega
      · rw [if_neg hp] at hz2; exact absurd hz2 hp
    · rw [if_neg hc] at hz2; omega
  · rw [if_neg hz]
    exact ⟨ok_z15, lns_z, fun h => absurd h hz⟩

set_option maxHeartbeats 16000000 in
theorem slashLeaves_law (pL : PLeav) (pS : PSlas) (x : VState) (la : Option Addr) (ln lc : Nat) (lf : Nat → Int) (ha : Option Addr) (hn hc : Nat) (hf : Nat → Bool) (w : World) (hx : OkState x) (hw : InW w x) (hni : NilW x) (hl : Lns x) (hr : Rch x) (hel : Z.Nms .u64 w la ln lf) (hez : ∀ q, 0 ≤ lf q ∧ lf q < 18446744073709551616) (hln : ln ≤ 9223372036854775807) (hbl : Z.Bls w ha hn hc hf) (hhn : hn ≤ 9223372036854775807) (hS : Sh w) (hC : Tab w 0 64 KW) :
    Calls Tryz.prog 3 #[.agg (cel (sState x)), .slice la ln lc, .slice ha hn hc] w fun e' w' => e' = .returned (.bool true) ∧ Below w.heap.size w w' := by
  obtain ⟨W0, hW0⟩ : ∃ W, w.alloc (.cells (cel (sState x)) 49) = W := ⟨_, rfl⟩
  have hB0 : Up w W0 := by rw [← hW0]; exact (Below.refl _ _).alloc (Nat.le_refl _) _
  have r0 : W0.heap[w.heap.size]? = some (.cells (cel (sState x)) 49) := by rw [← hW0]; exact heap_new rfl
  have haw := awake18 pL pS W0 (hS.below hB0)
  have hI0 : SvI w w.heap.size W0 x := ⟨hB0, r0, hx, hw.below hB0, hni, hl, hr, hw.aw (Nat.le_refl _)⟩
  have hle2 : ∀ V X i, Up w V → OkState X → InW V X → NilW X → Lns X → 0 ≤ i → Calls Tryz.prog 8 #[.agg (cel (sState X)), .int .u64 i] V fun e' w' => ∃ P, e' = .returned (.tuple #[.agg (cel (sState P)), .int .i64 (sqE X i)]) ∧ Res V.heap.size w' (sqS X i) P ∧ Below V.heap.size V w' := fun V X i h a b c d e => pS X i V a b c d e (hS.below h)
  have hre2 : ∀ V X i, Up w V → OkState X → InW V X → NilW X → 0 ≤ i → Calls Tryz.prog 9 #[.agg (cel (sState X)), .int .u64 i] V fun e' w' => ∃ P, e' = .returned (.tuple #[.agg (cel (sState P)), .int .i64 (sqE X i)]) ∧ Res V.heap.size w' (sqS X i) P ∧ Below V.heap.size V w' := fun V X i h a b c d => rslash_any2 X i V a b c d (hC.below h)
  have HWo := hid hW0
  have HAW := hid haw
  have HI := hid hI0
  have HEL := hid hel
  have HEZ := hid hez
  have HBL := hid hbl
  have PL := hid pL
  have PS2 := hid hle2
  have RS2 := hid hre2
  have z := zeroState
  clear hB0 hW0 r0 haw hI0 hx hw hni hl hr hel hez hbl hS pL pS hle2 hre2 hC
  go_enter Tryz.func3, Tryz.ntmps3
  go_upto_region 1 with fail
  rw [HWo.out]
  clear HWo
  go_upto_region 3 with (go_at_call 4; refine HAW.out.mono ?_; rintro e' w1 ⟨rfl, hb1⟩)
  have HI1 := hid (HI.out.up hb1)
  clear hb1 HAW HI
  obtain ⟨b3, eb3⟩ : ∃ b, w.heap.size = b := ⟨_, rfl⟩
  have HB3 : Hid (w.heap.size ≤ b3) := Nat.le_of_eq eb3
  rw [eb3] at HI1 ⊢
  clear eb3
  go_wp2
  go_loopw [7] (fun i wr => ∃ (k : Nat) (X : VState), k ≤ ln ∧ k ≤ 8 ∧ i = .int .i64 k ∧ SvI w b3 wr X) (fun i _ => ln - (intOf i).toNat)
  case atStart => exact ⟨0, _, by omega, by omega, rfl, HI1.out⟩
  case round =>
    clear HI1
    obtain ⟨k, X, hk, hk8, rfl, hi⟩ := hrel
    by_cases hlt : k < ln
    · have k1 : (k : Int) < (ln : Int) := by omega
      by_cases h8 : k < 8
      · have k8 : (k : Int) < 8 := by omega
        have k2 : IntKind.i64.wrap ((k : Int) + 1) = (k : Int) + 1 := by rw [IntKind.wrap_i64]; omega
        rcases HEL.out with h0 | ⟨b, off, ea, hbl2, hrr⟩
        · omega
        subst ea
        have hix := fun W => ixU_run W b off ln lc k hlt
        obtain ⟨iv0, iv1⟩ := HEZ.out k
        have hle : ∀ W, Up wr W → W.cell? ⟨b, off + k, none⟩ = some (.int .u64 (lf k)) := fun W h => (below_cell (upT hi.bel h) hbl2).trans (hrr k hlt)
        have hbb3 : b ≠ b3 := by have := HB3.out; omega
        have hbw : b < wr.heap.size := Nat.lt_of_lt_of_le hbl2 hi.bel.size
        obtain ⟨I, eI⟩ : ∃ I, lf k = I := ⟨_, rfl⟩
        rw [eI] at hle iv0 iv1
        clear eI hrr
        have hlx : ∀ W, Up wr W → (lvState ⟨b3, 0, none⟩).run Tryz.prog W = .ok (.agg (cel (sState X))) W := fun W h => lvState_run (upR h hi.row)
        have lx := hlx wr (Below.refl _ _)
        have HCQ := hid (copy_full X wr hi.ix hi.nx hi.rc)
        have HII := hid hi
        have HIX := hid hix
        have HLE0 := hid hle
        have HLX0 := hid hlx
        have HBW := hid hbw
        have HBB := hid hbb3
        clear hix hle hlx hi hbl2 hbw hbb3
        go_upto_region 7 with (go_at_call 5; refine HCQ.out.mono ?_; rintro e' w2 ⟨Y, rfl, hsim, hcd, hb2⟩; have sv := svState_newv w2 oState Y; have HSM := hid hsim; have HCD := hid hcd; have HB2 := hid hb2; clear hsim hcd hb2)
        obtain ⟨V0, y8, hV, ey8, r8, hd2, hy8⟩ := upN2 HB2.out (.cells (cel (sState Y)) 49)
        rw [hV, ey8]
        have hu0 := upT HB2.out hd2
        have hcv := HCD.out.below hd2
        have hiy : InW V0 Y := ⟨own_rtF hcv.o7, own_els hcv.o9 (fun i => by rw [celL_len]; rfl), own_els hcv.o11 (fun i => by rw [celL_len]; rfl), own_nms hcv.o12, own_byF hcv.o15, own_byF hcv.o16, own_nms hcv.o21⟩
        have HIY := hid hiy
        have HNY := hid HCD.out.nil
        have HU0 := hid hu0
        have R8 := hid r8
        have HY8 := hid hy8
        have HLX := hid (fun W (h : Up V0 W) => HLX0.out W (upT hu0 h))
        have HLE := hid (fun W (h : Up V0 W) => HLE0.out W (upT hu0 h))
        have hoY := okF_sim HSM.out HII.out.ok
        have hlY := lnsS_sim HSM.out HII.out.lx
        have HOY := hid hoY
        obtain ⟨a1, a2, a3, a4⟩ := lq_all I HII.out.ok HII.out.lx HSM.out
        have hpl : ∀ W, Up V0 W → Calls Tryz.prog 6 #[.agg (cel (sState X)), .int .u64 I] W fun e' w' => ∃ P, e' = .returned (.tuple #[.agg (cel (sState P)), .int .i64 (lqE X I)]) ∧ Res W.heap.size w' (lqS X I) P ∧ Below W.heap.size W w' := fun W h => PL.out X I W HII.out.ok (HII.out.ix.below (upT hu0 h)) HII.out.nx HII.out.lx iv0
        have hrl : ∀ W, Up V0 W → Calls Tryz.prog 7 #[.agg (cel (sState Y)), .int .u64 I] W fun e' w' => ∃ P, e' = .returned (.tuple #[.agg (cel (sState P)), .int .i64 (lqE X I)]) ∧ Res W.heap.size w' (lqS Y I) P ∧ Below W.heap.size W w' := fun W h => by
          have := rleave_any Y I W hoY (hiy.below h) HNY.out iv0
          rw [lqE_sim HSM.out] at this
          exact this
        obtain ⟨VE, eVE⟩ : ∃ e, lqE X I = e := ⟨_, rfl⟩
        obtain ⟨PS, ePS⟩ : ∃ e, lqS X I = e := ⟨_, rfl⟩
        obtain ⟨QS, eQS⟩ : ∃ e, lqS Y I = e := ⟨_, rfl⟩
        rw [ePS, eQS] at a1
        rw [ePS] at a2 a3 a4
        rw [eVE] at a4
        rw [eVE, ePS] at hpl
        rw [eVE, eQS] at hrl
        have HPL := hid hpl
        have HRL := hid hrl
        have HA1 := hid a1
        have HA2 := hid a2
        have HA3 := hid a3
        have HA4 := hid a4
        clear hV ey8 r8 hd2 hy8 sv HCD HB2 HCQ hu0 hcv hiy hoY hlY a1 a2 a3 a4 hpl hrl eVE ePS eQS lx HLX0 HLE0
        go_cut [9, 10] from 15 (fun u e wx => ∃ P y, u = .pointer (some ⟨y, 0, none⟩) ∧ e = .int .i64 VE ∧ wx.heap[y]? = some (.cells (cel (sState P)) 49) ∧ Res V0.heap.size wx PS P ∧ Up V0 wx ∧ V0.heap.size ≤ y)
        case first =>
          refine wp_region_noPanic ?_
          refine wp_region_held_drew (S := fun W => Up V0 W) (by kernel_rfl) ((Below.refl _ _).drew) (fun hHeld => ?_)
          generalize V0.drew = wd at hHeld ⊢
          refine tk 0 (v := ?v917) ?y917 hHeld ?r917
          case y917 => intro w hSw; have ld0 := HLX.out w hSw; go_simp; try with_reducible rfl
          refine tk 1 (v := ?v918) ?y918 hHeld ?r918
          case y918 => intro w hSw; go_simp; try with_reducible rfl
          refine tk 2 (v := ?v919) ?y919 hHeld ?r919
          case y919 => intro w hSw; go_simp; try with_reducible rfl
          refine tk 3 (v := ?v920) ?y920 hHeld ?r920
          case y920 => intro w hSw; have ld0 := HIX.out w; go_simp; try with_reducible rfl
          refine tk 4 (v := ?v921) ?y921 hHeld ?r921
          case y921 => intro w hSw; have ld0 := HLE.out w hSw; go_simp; try with_reducible rfl
          try simp only [Act.put, List.setIfInBounds_toArray, List.set_cons_zero, List.set_cons_succ, Array.toArray_toList, List.getElem_toArray, List.getElem_cons_zero, List.getElem_cons_succ]
          refine sh2 (fuel' := ?f300) (listed' := ?l300) (act := ?a300) (fun (X7 : VState) (y7 : Nat) V => Up V0 V ∧ Res V0.heap.size V PS X7 ∧ V.heap[y7]? = some (.cells (cel (sState oState)) 49) ∧ V0.heap.size ≤ y7 ∧ Aw y7 X7) (fun K300 => ?m300) ?t300
          case' m300 => skip
          refine rd2 5 9 (fun K hK => ?_) (fun K hK => ?_)
          · go_simp
            refine (HPL.out _ (hHeld)).mono ?_
            rintro e' x401 ⟨X7, rfl, hrX7, hd401⟩
            dsimp only
            have hc401 := upT hHeld hd401
            replace hrX7 := hrX7.to (hHeld).size hrX7.sim
            refine hK.out _ _ hc401 (fun hHeld => ?_)
            clear hK K
            try simp only [Act.put, List.setIfInBounds_toArray, List.set_cons_zero, List.set_cons_succ, Array.toArray_toList, List.getElem_toArray, List.getElem_cons_zero, List.getElem_cons_succ]
            refine tk 6 (v := ?v922) ?y922 hHeld ?r922
            case y922 => intro w hSw; go_simp; try with_reducible rfl
            refine tk 7 (v := ?v923) ?y923 hHeld ?r923
            case y923 => intro w hSw; go_simp; try with_reducible rfl
            refine tk 8 (v := ?v924) ?y924 hHeld ?r924
            case y924 => intro w hSw; go_simp; try with_reducible rfl
            try simp only [Act.put, List.setIfInBounds_toArray, List.set_cons_zero, List.set_cons_succ, Array.toArray_toList, List.getElem_toArray, List.getElem_cons_zero, List.getElem_cons_succ]
            refine rd1 9 (fun K hK => ?_)
            have zr := zeroState
            go_simp
            obtain ⟨x402, y7, hx, ey, ry7, hd402, by7⟩ := upN2 hc401 (.cells (cel (sState oState)) 49)
            rw [hx, ey]
            have l402 := Nat.le_of_eq ey
            clear hx ey zr
            have hc402 := upT hc401 hd402
            have haX7 := hrX7.inw.aw l402
            replace hrX7 := hrX7.below hd402
            refine hK.out _ _ hc402 (fun hHeld => ?_)
            clear hK K
            try simp only [Act.put, List.setIfInBounds_toArray, List.set_cons_zero, List.set_cons_succ, Array.toArray_toList, List.getElem_toArray, List.getElem_cons_zero, List.getElem_cons_succ]
            exact K300.out X7 y7 x402 ⟨hc402, hrX7, ry7, by7, haX7⟩
          · have zr := zeroState
            go_simp
            obtain ⟨x403, y7, hx, ey, ry7, hd403, by7⟩ := upN2 hHeld (.cells (cel (sState oState)) 49)
            rw [hx, ey]
            have l403 := Nat.le_of_eq ey
            clear hx ey zr
            have hc403 := upT hHeld hd403
            refine hK.out _ _ hc403 (fun hHeld => ?_)
            clear hK K
            try simp only [Act.put, List.setIfInBounds_toArray, List.set_cons_zero, List.set_cons_succ, Array.toArray_toList, List.getElem_toArray, List.getElem_cons_zero, List.getElem_cons_succ]
            refine rd1 5 (fun K hK => ?_)
            go_simp
            refine (HPL.out _ (hc403)).mono ?_
            rintro e' x404 ⟨X7, rfl, hrX7, hd404⟩
            dsimp only
            have hc404 := upT hc403 hd404
            have haX7 := hrX7.new.aw (some_ltK ry7)
            replace hrX7 := hrX7.to (hc403).size hrX7.sim
            replace ry7 := upR hd404 ry7
            refine hK.out _ _ hc404 (fun hHeld => ?_)
            clear hK K
            try simp only [Act.put, List.setIfInBounds_toArray, List.set_cons_zero, List.set_cons_succ, Array.toArray_toList, List.getElem_toArray, List.getElem_cons_zero, List.getElem_cons_succ]
            refine tk 6 (v := ?v925) ?y925 hHeld ?r925
            case y925 => intro w hSw; go_simp; try with_reducible rfl
            refine tk 7 (v := ?v926) ?y926 hHeld ?r926
            case y926 => intro w hSw; go_simp; try with_reducible rfl
            refine tk 8 (v := ?v927) ?y927 hHeld ?r927
            case y927 => intro w hSw; go_simp; try with_reducible rfl
            try simp only [Act.put, List.setIfInBounds_toArray, List.set_cons_zero, List.set_cons_succ, Array.toArray_toList, List.getElem_toArray, List.getElem_cons_zero, List.getElem_cons_succ]
            exact K300.out X7 y7 x404 ⟨hc404, hrX7, ry7, by7, haX7⟩
          case t300 =>
            rintro X7 y7 V ⟨hB, hrX7, ry7, by7, haX7⟩
            have hHeld := hB
            refine rd1 10 (fun K hK => ?_)
            have sv := svState_run ry7 X7
            go_simp
            have hce : Up V0 _ := below_row (hB) by7 (cel (sState X7))
            have hrz : Res V0.heap.size (V.setRow y7 (cel (sState X7))) PS X7 := ⟨hrX7.sim, hrX7.inw.kept haX7 ((Kept.refl _ _).setRow _), hrX7.nil, hrX7.new⟩
            refine hK.out _ _ hce (fun hHeld => ?_)
            clear hK K sv
            try simp only [Act.put, List.setIfInBounds_toArray, List.set_cons_zero, List.set_cons_succ, Array.toArray_toList, List.getElem_toArray, List.getElem_cons_zero, List.getElem_cons_succ]
            refine rd1 11 (fun K hK => ?_)
            go_simp
            refine hK.out _ _ hce (fun hHeld => ?_)
            clear hK K
            try simp only [Act.put, List.setIfInBounds_toArray, List.set_cons_zero, List.set_cons_succ, Array.toArray_toList, List.getElem_toArray, List.getElem_cons_zero, List.getElem_cons_succ]
            refine wpAnyH_done (by kernel_rfl) ?_ _
            refine NoPanic.normal ?_
            go_wp2
            go_meet
            exact ⟨X7, y7, rfl, rfl, setRow_at ry7, hrz, hce, by7⟩
        case rest =>
          obtain ⟨P, y9, rfl, rfl, r9, hp9, hu9, hy9⟩ := hcut
          obtain ⟨W8, eW8⟩ : ∃ W, wc = W := ⟨_, rfl⟩
          rw [eW8] at r9 hp9 hu9 ⊢
          clear eW8
          have R9 := hid r9
          have HP9 := hid hp9
          have HU9 := hid hu9
          have HRR := hid (fun V (h : Up W8 V) => HRL.out V (upT hu9 h))
          have HLYY : Hid (∀ W, Up V0 W → (lvState ⟨y8, 0, none⟩).run Tryz.prog W = .ok (.agg (cel (sState Y))) W) := fun W h => lvState_run (upR h R8.out)
          have HLXX := HLX
          have HLEE := HLE
          clear HLX HLE
          have HLX := hid (fun V (h : Up W8 V) => HLYY.out V (upT hu9 h))
          have HLE := hid (fun V (h : Up W8 V) => HLEE.out V (upT hu9 h))
          clear r9 hp9 hu9 HPL HRL
          go_upto_region 8 with fail
          go_cut [11, 12] from 15 (fun u e wx => ∃ P y, u = .pointer (some ⟨y, 0, none⟩) ∧ e = .int .i64 VE ∧ wx.heap[y]? = some (.cells (cel (sState P)) 49) ∧ Res W8.heap.size wx QS P ∧ Up W8 wx ∧ W8.heap.size ≤ y)
          case first =>
            refine wp_region_noPanic ?_
            refine wp_region_held_drew (S := fun W => Up W8 W) (by kernel_rfl) ((Below.refl _ _).drew) (fun hHeld => ?_)
            generalize W8.drew = wd at hHeld ⊢
            refine tk 0 (v := ?v928) ?y928 hHeld ?r928
            case y928 => intro w hSw; have ld0 := HLX.out w hSw; go_simp; try with_reducible rfl
            refine tk 1 (v := ?v929) ?y929 hHeld ?r929
            case y929 => intro w hSw; go_simp; try with_reducible rfl
            refine tk 2 (v := ?v930) ?y930 hHeld ?r930
            case y930 => intro w hSw; go_simp; try with_reducible rfl
            refine tk 3 (v := ?v931) ?y931 hHeld ?r931
            case y931 => intro w hSw; have ld0 := HIX.out w; go_simp; try with_reducible rfl
            refine tk 4 (v := ?v932) ?y932 hHeld ?r932
            case y932 => intro w hSw; have ld0 := HLE.out w hSw; go_simp; try with_reducible rfl
            try simp only [Act.put, List.setIfInBounds_toArray, List.set_cons_zero, List.set_cons_succ, Array.toArray_toList, List.getElem_toArray, List.getElem_cons_zero, List.getElem_cons_succ]
            refine sh2 (fuel' := ?f400) (listed' := ?l400) (act := ?a400) (fun (X9 : VState) (y9b : Nat) V => Up W8 V ∧ Res W8.heap.size V QS X9 ∧ V.heap[y9b]? = some (.cells (cel (sState oState)) 49) ∧ W8.heap.size ≤ y9b ∧ Aw y9b X9) (fun K400 => ?m400) ?t400
            case' m400 => skip
            refine rd2 5 9 (fun K hK => ?_) (fun K hK => ?_)
            · go_simp
              refine (HRR.out _ (hHeld)).mono ?_
              rintro e' x405 ⟨X9, rfl, hrX9, hd405⟩
              dsimp only
              have hc405 := upT hHeld hd405
              replace hrX9 := hrX9.to (hHeld).size hrX9.sim
              refine hK.out _ _ hc405 (fun hHeld => ?_)
              clear hK K
              try simp only [Act.put, List.setIfInBounds_toArray, List.set_cons_zero, List.set_cons_succ, Array.toArray_toList, List.getElem_toArray, List.getElem_cons_zero, List.getElem_cons_succ]
              refine tk 6 (v := ?v933) ?y933 hHeld ?r933
              case y933 => intro w hSw; go_simp; try with_reducible rfl
              refine tk 7 (v := ?v934) ?y934 hHeld ?r934
              case y934 => intro w hSw; go_simp; try with_reducible rfl
              refine tk 8 (v := ?v935) ?y935 hHeld ?r935
              case y935 => intro w hSw; go_simp; try with_reducible rfl
              try simp only [Act.put, List.setIfInBounds_toArray, List.set_cons_zero, List.set_cons_succ, Array.toArray_toList, List.getElem_toArray, List.getElem_cons_zero, List.getElem_cons_succ]
              refine rd1 9 (fun K hK => ?_)
              have zr := zeroState
              go_simp
              obtain ⟨x406, y9b, hx, ey, ry9b, hd406, by9b⟩ := upN2 hc405 (.cells (cel (sState oState)) 49)
              rw [hx, ey]
              have l406 := Nat.le_of_eq ey
              clear hx ey zr
              have hc406 := upT hc405 hd406
              have haX9 := hrX9.inw.aw l406
              replace hrX9 := hrX9.below hd406
              refine hK.out _ _ hc406 (fun hHeld => ?_)
              clear hK K
              try simp only [Act.put, List.setIfInBounds_toArray, List.set_cons_zero, List.set_cons_succ, Array.toArray_toList, List.getElem_toArray, List.getElem_cons_zero, List.getElem_cons_succ]
              exact K400.out X9 y9b x406 ⟨hc406, hrX9, ry9b, by9b, haX9⟩
            · have zr := zeroState
              go_simp
              obtain ⟨x407, y9b, hx, ey, ry9b, hd407, by9b⟩ := upN2 hHeld (.cells (cel (sState oState)) 49)
              rw [hx, ey]
              have l407 := Nat.le_of_eq ey
              clear hx ey zr
              have hc407 := upT hHeld hd407
              refine hK.out _ _ hc407 (fun hHeld => ?_)
              clear hK K
              try simp only [Act.put, List.setIfInBounds_toArray, List.set_cons_zero, List.set_cons_succ, Array.toArray_toList, List.getElem_toArray, List.getElem_cons_zero, List.getElem_cons_succ]
              refine rd1 5 (fun K hK => ?_)
              go_simp
              refine (HRR.out _ (hc407)).mono ?_
              rintro e' x408 ⟨X9, rfl, hrX9, hd408⟩
              dsimp only
              have hc408 := upT hc407 hd408
              have haX9 := hrX9.new.aw (some_ltK ry9b)
              replace hrX9 := hrX9.to (hc407).size hrX9.sim
              replace ry9b := upR hd408 ry9b
              refine hK.out _ _ hc408 (fun hHeld => ?_)
              clear hK K
              try simp only [Act.put, List.setIfInBounds_toArray, List.set_cons_zero, List.set_cons_succ, Array.toArray_toList, List.getElem_toArray, List.getElem_cons_zero, List.getElem_cons_succ]
              refine tk 6 (v := ?v936) ?y936 hHeld ?r936
              case y936 => intro w hSw; go_simp; try with_reducible rfl
              refine tk 7 (v := ?v937) ?y937 hHeld ?r937
              case y937 => intro w hSw; go_simp; try with_reducible rfl
              refine tk 8 (v := ?v938) ?y938 hHeld ?r938
              case y938 => intro w hSw; go_simp; try with_reducible rfl
              try simp only [Act.put, List.setIfInBounds_toArray, List.set_cons_zero, List.set_cons_succ, Array.toArray_toList, List.getElem_toArray, List.getElem_cons_zero, List.getElem_cons_succ]
              exact K400.out X9 y9b x408 ⟨hc408, hrX9, ry9b, by9b, haX9⟩
            case t400 =>
              rintro X9 y9b V ⟨hB, hrX9, ry9b, by9b, haX9⟩
              have hHeld := hB
              refine rd1 10 (fun K hK => ?_)
              have sv := svState_run ry9b X9
              go_simp
              have hce : Up W8 _ := below_row (hB) by9b (cel (sState X9))
              have hrz : Res W8.heap.size (V.setRow y9b (cel (sState X9))) QS X9 := ⟨hrX9.sim, hrX9.inw.kept haX9 ((Kept.refl _ _).setRow _), hrX9.nil, hrX9.new⟩
              refine hK.out _ _ hce (fun hHeld => ?_)
              clear hK K sv
              try simp only [Act.put, List.setIfInBounds_toArray, List.set_cons_zero, List.set_cons_succ, Array.toArray_toList, List.getElem_toArray, List.getElem_cons_zero, List.getElem_cons_succ]
              refine rd1 11 (fun K hK => ?_)
              go_simp
              refine hK.out _ _ hce (fun hHeld => ?_)
              clear hK K
              try simp only [Act.put, List.setIfInBounds_toArray, List.set_cons_zero, List.set_cons_succ, Array.toArray_toList, List.getElem_toArray, List.getElem_cons_zero, List.getElem_cons_succ]
              refine wpAnyH_done (by kernel_rfl) ?_ _
              refine NoPanic.normal ?_
              go_wp2
              go_meet
              exact ⟨X9, y9b, rfl, rfl, setRow_at ry9b, hrz, hce, by9b⟩
          case rest =>
            obtain ⟨Q, y11, rfl, rfl, r11, hq11, hu11, hy11⟩ := hcut
            obtain ⟨W9, eW9⟩ : ∃ W, wc = W := ⟨_, rfl⟩
            rw [eW9] at r11 hq11 hu11 ⊢
            clear eW9
            have hu := upT HU9.out hu11
            have hbt : Bth V0 W9 y9 y11 VE P Q PS QS := ⟨upR hu11 R9.out, r11, HP9.out.below hu11, hq11.to HU9.out.size hq11.sim, HA1.out, HA2.out, HA3.out, HA4.out, hu⟩
            have HBT := hid hbt
            have HY9 := hid hy9
            have HY11 := hid (Nat.le_trans HU9.out.size hy11)
            have HNE : Hid (y9 ≠ y11) := by have := some_ltK R9.out; unfold Hid; omega
            clear hbt hu hu11 hq11 r11 hy9 hy11 R9 HP9 HU9 HRR HLX HLE HA1 HA2 HA3 HA4
            have hbl : ∀ j, j < hn → ∃ b2 off2, ha = some ⟨b2, off2, none⟩ ∧ W9.cell? ⟨b2, off2 + j, none⟩ = some (.bool (hf j)) := fun j hj => by
              obtain ⟨b2, off2, e2, l2, c2⟩ := Z.bls_at HBL.out j hj
              exact ⟨b2, off2, e2, (below_cell (upT HII.out.bel (upT HU0.out HBT.out.up)) l2).trans c2⟩
            have HBJ := hid hbl
            clear hbl
            obtain ⟨HB, eHB⟩ : ∃ b, (decide (k < hn) && hf k) = b := ⟨_, rfl⟩
            have EHB := hid eHB
            clear eHB
            go_upto_region 9 with fail
            go_cut [54] from 15 (fun c wx => c = .bool HB ∧ wx = W9)
            case first =>
              by_cases hh : k < hn
              · have kh1 : (k : Int) < (hn : Int) := by omega
                obtain ⟨b2, off2, e2, c2⟩ := HBJ.out k hh
                subst e2
                have ixb := fun W => ixBo_run W b2 off2 hn hc k hh
                obtain ⟨v, ev⟩ : ∃ v, hf k = v := ⟨_, rfl⟩
                rw [ev] at c2
                have EV := hid ev
                clear ev
                cases v
                · go_wp2
                  go_meet
                  exact ⟨by rw [← EHB.out, EV.out, decide_eq_true hh]; rfl, by first | trivial | rfl⟩
                · go_wp2
                  go_meet
                  exact ⟨by rw [← EHB.out, EV.out, decide_eq_true hh]; rfl, by first | trivial | rfl⟩
              · have kh1 : ¬ (k : Int) < (hn : Int) := by omega
                go_wp2
                go_meet
                exact ⟨by rw [← EHB.out, decide_eq_false hh]; rfl, by first | trivial | rfl⟩
            case rest =>
              obtain ⟨rfl, hw9⟩ := hcut
              obtain rfl := hw9.symm
              clear hw9 HBJ EHB
              go_upto_if 54 with fail
              go_cut [10, 12] from 15 (fun e f wx => ∃ VE P Q PS QS, e = .int .i64 VE ∧ f = .int .i64 VE ∧ Bth V0 wx y9 y11 VE P Q PS QS)
              case first =>
                cases HB
                · go_wp2
                  go_meet
                  exact ⟨VE, P, Q, PS, QS, rfl, rfl, HBT.out⟩
                · obtain ⟨c1, c2, c3, c4⟩ := sq_all I HII.out.ok HII.out.lx HSM.out iv0
                  have hu9 := upT HU0.out HBT.out.up
                  have hp2 : ∀ W, Up W9 W → Calls Tryz.prog 8 #[.agg (cel (sState X)), .int .u64 I] W fun e' w' => ∃ P, e' = .returned (.tuple #[.agg (cel (sState P)), .int .i64 (sqE X I)]) ∧ Res W.heap.size w' (sqS X I) P ∧ Below W.heap.size W w' := fun W h => PS2.out W X I (upT HII.out.bel (upT hu9 h)) HII.out.ok (HII.out.ix.below (upT hu9 h)) HII.out.nx HII.out.lx iv0
                  have hr2 : ∀ W, Up V0 W → Calls Tryz.prog 9 #[.agg (cel (sState Y)), .int .u64 I] W fun e' w' => ∃ P, e' = .returned (.tuple #[.agg (cel (sState P)), .int .i64 (sqE X I)]) ∧ Res W.heap.size w' (sqS Y I) P ∧ Below W.heap.size W w' := fun W h => by
                    have := RS2.out W Y I (upT HII.out.bel (upT HU0.out h)) HOY.out (HIY.out.below h) HNY.out iv0
                    rw [sqE_sim HSM.out] at this
                    exact this
                  have b3lt := some_ltK HII.out.row
                  have hne9 : b3 ≠ y9 := by have := HY9.out; have := HU0.out.size; omega
                  have hbne9 : b ≠ y9 := by have := HY9.out; have := HU0.out.size; have := HBW.out; omega
                  have hkx : ∀ W, Kept y9 W9 W → (lvState ⟨b3, 0, none⟩).run Tryz.prog W = .ok (.agg (cel (sState X))) W := fun W h => lvState_run (t := 49) ((h.block b3 (some_ltK (upR hu9 HII.out.row)) hne9).trans (upR hu9 HII.out.row))
                  have hke : ∀ W, Kept y9 W9 W → W.cell? ⟨b, off + k, none⟩ = some (.int .u64 I) := fun W h => (h.cell (Nat.lt_of_lt_of_le HBW.out hu9.size) hbne9).trans (HLEE.out W9 HBT.out.up)
                  obtain ⟨VE2, eVE2⟩ : ∃ e, sqE X I = e := ⟨_, rfl⟩
                  obtain ⟨PS3, ePS3⟩ : ∃ e, sqS X I = e := ⟨_, rfl⟩
                  obtain ⟨QS3, eQS3⟩ : ∃ e, sqS Y I = e := ⟨_, rfl⟩
                  rw [ePS3, eQS3] at c1
                  rw [ePS3] at c2 c3 c4
                  rw [eVE2] at c4
                  rw [eVE2, ePS3] at hp2
                  rw [eVE2, eQS3] at hr2
                  have HPL2 := hid hp2
                  have HRL2 := hid hr2
                  have HC1 := hid c1
                  have HC2 := hid c2
                  have HC3 := hid c3
                  have HC4 := hid c4
                  have HKX := hid hkx
                  have HKE := hid hke
                  clear c1 c2 c3 c4 hp2 hr2 hkx hke eVE2 ePS3 eQS3 hne9 hbne9 b3lt hu9
                  go_upto_region 10 with fail
                  refine wp_region_noPanic ?_
                  refine wp_region_held_drew (S := fun W => Kept y9 W9 W) (by kernel_rfl) ((Kept.refl _ _).drew) (fun hHeld => ?_)
                  have hUd : Up W9 W9.drew := (Below.refl _ _).drew
                  generalize W9.drew = wd at hHeld hUd ⊢
                  have hUdd := hUd
                  refine tk 0 (v := ?v901) ?y901 hHeld ?r901
                  case y901 => intro w hSw; have ld0 := HKX.out w hSw; go_simp; try with_reducible rfl
                  refine tk 1 (v := ?v902) ?y902 hHeld ?r902
                  case y902 => intro w hSw; go_simp; try with_reducible rfl
                  refine tk 2 (v := ?v903) ?y903 hHeld ?r903
                  case y903 => intro w hSw; go_simp; try with_reducible rfl
                  refine tk 3 (v := ?v904) ?y904 hHeld ?r904
                  case y904 => intro w hSw; have ld0 := HIX.out w; go_simp; try with_reducible rfl
                  refine tk 4 (v := ?v905) ?y905 hHeld ?r905
                  case y905 => intro w hSw; have ld0 := HKE.out w hSw; go_simp; try with_reducible rfl
                  try simp only [Act.put, List.setIfInBounds_toArray, List.set_cons_zero, List.set_cons_succ, Array.toArray_toList, List.getElem_toArray, List.getElem_cons_zero, List.getElem_cons_succ]
                  refine rd1 5 (fun K hK => ?_)
                  go_simp
                  refine (HPL2.out wd hUd).mono ?_
                  rintro e' x1 ⟨X10, rfl, hrX10, hd1⟩
                  dsimp only
                  have hc1 : Up W9 x1 := upT hUd hd1
                  refine hK.out _ _ (Kept.ofBelow hc1) (fun hHeld => ?_)
                  clear hK K
                  try simp only [Act.put, List.setIfInBounds_toArray, List.set_cons_zero, List.set_cons_succ, Array.toArray_toList, List.getElem_toArray, List.getElem_cons_zero, List.getElem_cons_succ]
                  refine tk 6 (v := ?v906) ?y906 hHeld ?r906
                  case y906 => intro w hSw; go_simp; try with_reducible rfl
                  refine tk 7 (v := ?v907) ?y907 hHeld ?r907
                  case y907 => intro w hSw; go_simp; try with_reducible rfl
                  refine tk 8 (v := ?v908) ?y908 hHeld ?r908
                  case y908 => intro w hSw; go_simp; try with_reducible rfl
                  try simp only [Act.put, List.setIfInBounds_toArray, List.set_cons_zero, List.set_cons_succ, Array.toArray_toList, List.getElem_toArray, List.getElem_cons_zero, List.getElem_cons_succ]
                  refine rd1 9 (fun K hK => ?_)
                  have ry1 := upR hc1 HBT.out.rp
                  have sv := svState_run ry1 X10
                  go_simp
                  have hk1 : Kept y9 W9 (x1.setRow y9 (cel (sState X10))) := (Kept.ofBelow hc1).setRow _
                  refine hK.out _ _ hk1 (fun hHeld => ?_)
                  clear hK K sv
                  try simp only [Act.put, List.setIfInBounds_toArray, List.set_cons_zero, List.set_cons_succ, Array.toArray_toList, List.getElem_toArray, List.getElem_cons_zero, List.getElem_cons_succ]
                  refine rd1 10 (fun K hK => ?_)
                  go_simp
                  refine hK.out _ _ hk1 (fun hHeld => ?_)
                  clear hK K
                  try simp only [Act.put, List.setIfInBounds_toArray, List.set_cons_zero, List.set_cons_succ, Array.toArray_toList, List.getElem_toArray, List.getElem_cons_zero, List.getElem_cons_succ]
                  refine wpAnyH_done (by kernel_rfl) ?_ _
                  refine NoPanic.normal ?_
                  clear HKX HKE HPL2 hUd hHeld
                  have ly9 := some_ltK HBT.out.rp
                  have ly11 := some_ltK HBT.out.rq
                  have hra : Res W9.heap.size (x1.setRow y9 (cel (sState X10))) PS3 X10 := ⟨hrX10.sim, hrX10.inw.kept (hrX10.new.aw (some_ltK (upR hUdd HBT.out.rp))) ((Kept.refl _ _).setRow _), hrX10.nil, hrX10.new.mono hUdd.size⟩
                  have hup10 : Up V0 (x1.setRow y9 (cel (sState X10))) := below_row (upT HBT.out.up hc1) HY9.out _
                  have ra9 : (x1.setRow y9 (cel (sState X10))).heap[y9]? = some (.cells (cel (sState X10)) 49) := setRow_at (upR hc1 HBT.out.rp)
                  have ra11 : (x1.setRow y9 (cel (sState X10))).heap[y11]? = some (.cells (cel (sState Q)) 49) := by rw [setRow_other (fun e => HNE.out e.symm)]; exact upR hc1 HBT.out.rq
                  obtain ⟨W10, eW10⟩ : ∃ W, x1.setRow y9 (cel (sState X10)) = W := ⟨_, rfl⟩
                  rw [eW10] at hra hup10 ra9 ra11
                  rw [eW10]
                  have y8lt := some_ltK R8.out
                  have hne8 : y8 ≠ y11 := by have := HY11.out; omega
                  have hbne11 : b ≠ y11 := by have := HY11.out; have := HU0.out.size; have := HBW.out; omega
                  have hkx : ∀ W, Kept y11 W10 W → (lvState ⟨y8, 0, none⟩).run Tryz.prog W = .ok (.agg (cel (sState Y))) W := fun W h => lvState_run (t := 49) ((h.block y8 (some_ltK (upR hup10 R8.out)) hne8).trans (upR hup10 R8.out))
                  have hke : ∀ W, Kept y11 W10 W → W.cell? ⟨b, off + k, none⟩ = some (.int .u64 I) := fun W h => (h.cell (Nat.lt_of_lt_of_le HBW.out (upT HU0.out hup10).size) hbne11).trans (HLEE.out W10 hup10)
                  have HKX := hid hkx
                  have HKE := hid hke
                  have HRA := hid hra
                  have HUP10 := hid hup10
                  have RA9 := hid ra9
                  have RA11 := hid ra11
                  have HRL3 := hid (fun V (h : Up W10 V) => HRL2.out V (upT hup10 h))
                  clear hkx hke hra hup10 ra9 ra11 eW10 y8lt hne8 hbne11 hrX10 hk1 hc1 hd1 hUdd ry1 HRL2
                  go_upto_region 11 with fail
                  refine wp_region_noPanic ?_
                  refine wp_region_held_drew (S := fun W => Kept y11 W10 W) (by kernel_rfl) ((Kept.refl _ _).drew) (fun hHeld => ?_)
                  have hUd : Up W10 W10.drew := (Below.refl _ _).drew
                  generalize W10.drew = wd at hHeld hUd ⊢
                  have hUdd := hUd
                  refine tk 0 (v := ?v909) ?y909 hHeld ?r909
                  case y909 => intro w hSw; have ld0 := HKX.out w hSw; go_simp; try with_reducible rfl
                  refine tk 1 (v := ?v910) ?y910 hHeld ?r910
                  case y910 => intro w hSw; go_simp; try with_reducible rfl
                  refine tk 2 (v := ?v911) ?y911 hHeld ?r911
                  case y911 => intro w hSw; go_simp; try with_reducible rfl
                  refine tk 3 (v := ?v912) ?y912 hHeld ?r912
                  case y912 => intro w hSw; have ld0 := HIX.out w; go_simp; try with_reducible rfl
                  refine tk 4 (v := ?v913) ?y913 hHeld ?r913
                  case y913 => intro w hSw; have ld0 := HKE.out w hSw; go_simp; try with_reducible rfl
                  try simp only [Act.put, List.setIfInBounds_toArray, List.set_cons_zero, List.set_cons_succ, Array.toArray_toList, List.getElem_toArray, List.getElem_cons_zero, List.getElem_cons_succ]
                  refine rd1 5 (fun K hK => ?_)
                  go_simp
                  refine (HRL3.out wd hUd).mono ?_
                  rintro e' x2 ⟨X11, rfl, hrX11, hd2⟩
                  dsimp only
                  have hc2 : Up W10 x2 := upT hUd hd2
                  refine hK.out _ _ (Kept.ofBelow hc2) (fun hHeld => ?_)
                  clear hK K
                  try simp only [Act.put, List.setIfInBounds_toArray, List.set_cons_zero, List.set_cons_succ, Array.toArray_toList, List.getElem_toArray, List.getElem_cons_zero, List.getElem_cons_succ]
                  refine tk 6 (v := ?v914) ?y914 hHeld ?r914
                  case y914 => intro w hSw; go_simp; try with_reducible rfl
                  refine tk 7 (v := ?v915) ?y915 hHeld ?r915
                  case y915 => intro w hSw; go_simp; try with_reducible rfl
                  refine tk 8 (v := ?v916) ?y916 hHeld ?r916
                  case y916 => intro w hSw; go_simp; try with_reducible rfl
                  try simp only [Act.put, List.setIfInBounds_toArray, List.set_cons_zero, List.set_cons_succ, Array.toArray_toList, List.getElem_toArray, List.getElem_cons_zero, List.getElem_cons_succ]
                  refine rd1 9 (fun K hK => ?_)
                  have ry2 := upR hc2 RA11.out
                  have sv := svState_run ry2 X11
                  go_simp
                  have hk2 : Kept y11 W10 (x2.setRow y11 (cel (sState X11))) := (Kept.ofBelow hc2).setRow _
                  refine hK.out _ _ hk2 (fun hHeld => ?_)
                  clear hK K sv
                  try simp only [Act.put, List.setIfInBounds_toArray, List.set_cons_zero, List.set_cons_succ, Array.toArray_toList, List.getElem_toArray, List.getElem_cons_zero, List.getElem_cons_succ]
                  refine rd1 10 (fun K hK => ?_)
                  go_simp
                  refine hK.out _ _ hk2 (fun hHeld => ?_)
                  clear hK K
                  try simp only [Act.put, List.setIfInBounds_toArray, List.set_cons_zero, List.set_cons_succ, Array.toArray_toList, List.getElem_toArray, List.getElem_cons_zero, List.getElem_cons_succ]
                  refine wpAnyH_done (by kernel_rfl) ?_ _
                  refine NoPanic.normal ?_
                  clear HKX HKE HRL3 hUd hHeld
                  have hrb : Res W10.heap.size (x2.setRow y11 (cel (sState X11))) QS3 X11 := ⟨hrX11.sim, hrX11.inw.kept (hrX11.new.aw (some_ltK (upR hUdd RA11.out))) ((Kept.refl _ _).setRow _), hrX11.nil, hrX11.new.mono hUdd.size⟩
                  have hra2 : Res V0.heap.size (x2.setRow y11 (cel (sState X11))) PS3 X10 := ⟨HRA.out.sim, (HRA.out.inw.below hc2).kept (HRA.out.new.aw ly11) ((Kept.refl _ _).setRow _), HRA.out.nil, HRA.out.new.mono HBT.out.up.size⟩
                  have hbt2 : Bth V0 (x2.setRow y11 (cel (sState X11))) y9 y11 VE2 X10 X11 PS3 QS3 := ⟨by rw [setRow_other HNE.out]; exact upR hc2 RA9.out, setRow_at (upR hc2 RA11.out), hra2, hrb.to HUP10.out.size hrb.sim, HC1.out, HC2.out, HC3.out, HC4.out, below_row (upT HUP10.out hc2) HY11.out _⟩
                  have HBT2 := hid hbt2
                  clear hbt2 hra2 hrb hrX11 hk2 hc2 hd2 hUdd ry2
                  go_wp2
                  go_meet
                  exact ⟨VE2, X10, X11, PS3, QS3, rfl, rfl, HBT2.out⟩
              case rest =>
                obtain ⟨VF, P2, Q2, PS4, QS4, rfl, rfl, hbt⟩ := hcut
                obtain ⟨W12, eW12⟩ : ∃ W, wc = W := ⟨_, rfl⟩
                rw [eW12] at hbt ⊢
                clear eW12 HBT HNE
                have hu := upT HU0.out hbt.up
                have lp := lvState_run hbt.rp
                have lq := lvState_run hbt.rq
                have hpq : SimF P2 Q2 := hbt.hp.sim.symm.trans (hbt.sm.trans hbt.hq.sim)
                have htl := told_any P2 Q2 none none 0 0 0 (fun _ => 0) VF W12 (okF_sim hbt.hp.sim hbt.ok) hbt.hp.inw hbt.hq.inw hpq (.inl ⟨rfl, rfl, rfl⟩) (.inl ⟨rfl, rfl, rfl⟩) (by omega)
                have hsm : ∀ V, Up W12 V → Calls Tryz.prog 11 #[.agg (cel (sState X)), .agg (cel (sState Y))] V fun e w' => e = .returned (.bool true) ∧ Below V.heap.size V w' := fun V h => rsame_sim X Y V HII.out.ok (HII.out.ix.below (upT hu h)) (HIY.out.below (upT hbt.up h)) HSM.out
                have HTL := hid htl
                have HSMM := hid hsm
                have HU := hid hu
                have HBT := hid hbt
                have HLY9 := hid (fun V (h : Up W12 V) => HLYY.out V (upT hbt.up h))
                have HLX9 := hid (fun V (h : Up W12 V) => HLXX.out V (upT hbt.up h))
                clear htl hsm hu hbt hpq HLXX HLYY HLEE PS2 RS2 HBL HBW HBB HIX
                go_upto_region 14 with (first
                  | (go_at_call 10; refine HTL.out.mono ?_; rintro e' w5 ⟨rfl, hb5⟩; have lx5 := HLX9.out w5 hb5; have ly5 := HLY9.out w5 hb5; have HS5 := hid (HSMM.out w5 hb5); have HB5 := hid hb5; clear hb5)
                  | (go_at_call 11; refine HS5.out.mono ?_; rintro e' w6 ⟨rfl, hb6⟩))
                have hu6 := upT HB5.out hb6
                have r76 := upR hu6 HBT.out.rp
                have HU6 := hid (upT HU.out hu6)
                have HP6 := hid ((HBT.out.hp.below hu6).to HU0.out.size HBT.out.hp.sim)
                have HOK := hid HBT.out.ok
                have HLN := hid HBT.out.ln
                have HRC := hid HBT.out.rc
                clear lx5 ly5 lp lq hb6 hu6 HS5 HB5 HTL HSMM HLY9 HLX9 HBT
                by_cases hE : VF = 0
                · have hnx := HII.out.next HU6.out HB3.out HP6.out HOK.out HLN.out (HRC.out hE)
                  have lp := lvState_run r76
                  have s3 := svState_run (upR HU6.out HII.out.row) P2
                  have HNX := hid hnx
                  clear hnx r76
                  go_wp2
                  go_roundw
                  case rel => exact ⟨k + 1, P2, by omega, by omega, by go_num, HNX.out⟩
                  case measure => simp [intOf]; omega
                · have HUP := hid (HII.out.up HU6.out)
                  clear r76
                  go_wp2
                  go_roundw
                  case rel => exact ⟨k + 1, X, by omega, by omega, by go_num, HUP.out⟩
                  case measure => simp [intOf]; omega
      · have k8 : ¬ (k : Int) < 8 := by omega
        have HBX := hid hi.bel
        clear hi
        go_wp2
        go_ret
        exact ⟨rfl, HBX.out⟩
    · have k1 : ¬ (k : Int) < (ln : Int) := by omega
      have HBX := hid hi.bel
      clear hi
      go_wp2
      go_ret
      exact ⟨rfl, HBX.out⟩

end Go.Proofs.YtpnpmgeokicpjaaGreatDoor
