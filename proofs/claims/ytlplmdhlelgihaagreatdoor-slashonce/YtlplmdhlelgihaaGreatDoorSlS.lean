/-
  SlashLeaves.
-/

import Derived.Test.YtlplmdhlelgihaaGreatDoorSlF
import Derived.Test.YtlplmdhlelgihaaGreatDoorQL
import Derived.Test.YtlplmdhlelgihaaGreatDoorQI
import Derived.Test.YtlplmdhlelgihaaGreatDoorQO
import Derived.Test.YtlplmdhlelgihaaGreatDoorBzA
import Derived.Test.YtlplmdhlelgihaaGreatDoorSlR
namespace Go.Proofs.YtlplmdhlelgihaaGreatDoor

open Go.RowKit

set_option linter.unusedVariables false

set_option linter.unusedSimpArgs false

set_option maxRecDepth 20000

/-- What the program's functions of layer 18 have to answer. -/
def PLeav : Prop := ∀ (x : VState) (i : Int) (w : World), OkState x → InW w x → NilW x → Lns x → 0 ≤ i → Calls Tryz.prog 9 #[.agg (cel (sState x)), .int .u64 i] w fun e' w' => ∃ X, e' = .returned (.tuple #[.agg (cel (sState X)), .int .i64 (lqE x i)]) ∧ Res w.heap.size w' (lqS x i) X ∧ Below w.heap.size w w'

def PSlas : Prop := ∀ (x : VState) (i : Int) (w : World), OkState x → InW w x → NilW x → Lns x → 0 ≤ i → Sh w → Calls Tryz.prog 5 #[.agg (cel (sState x)), .int .u64 i] w fun e' w' => ∃ X, e' = .returned (.tuple #[.agg (cel (sState X)), .int .i64 (sqE x i)]) ∧ Res w.heap.size w' (sqS x i) X ∧ Below w.heap.size w w'

/-- The state of the statements' own awake. -/
def XA (g1 g2 g3 g4 g5 : Nat) : VState := { X2 g1 g2 g3 g4 g5 with f12 := ⟨some ⟨g2, 0, none⟩, 1, 1, fun _ => 32000000000⟩ }

theorem bd_xA (W : World) (g1 g2 g3 g4 g5 : Nat) : (bdState #[(11, .slice (some ⟨g1, 0, none⟩) 1 1), (12, .slice (some ⟨g2, 0, none⟩) 1 1), (15, .slice (some ⟨g3, 0, none⟩) 1 1), (16, .slice (some ⟨g4, 0, none⟩) 1 1), (21, .slice (some ⟨g5, 0, none⟩) 1 1)]).run Tryz.prog W = .ok (.agg (cel (sState (XA g1 g2 g3 g4 g5)))) W := bd_x2 W g1 g2 g3 g4 g5

theorem ok_xA (g1 g2 g3 g4 g5 : Nat) : OkState (XA g1 g2 g3 g4 g5) :=
  { ok_x2 g1 g2 g3 g4 g5 with o12 := fun _ _ => by show (0 : Int) ≤ 32000000000 ∧ (32000000000 : Int) < _; omega }

theorem pr_xA (g1 g2 g3 g4 g5 : Nat) : prE (XA g1 g2 g3 g4 g5) = 0 ∧ prV (XA g1 g2 g3 g4 g5) = 0 := by
  have h0 : prE (XA g1 g2 g3 g4 g5) = 0 := by
    have hL : acE (XA g1 g2 g3 g4 g5) ((XA g1 g2 g3 g4 g5).f2 / 4) = [0] := by kernel_rfl
    unfold prE
    rw [hL]
    exact (dw_rich (by simp) (fun v _ => rfl) (by omega)).1
  refine ⟨h0, ?_⟩
  obtain ⟨p, e, hp⟩ := pr_in h0
  have : p < 1 := hp
  rw [e]
  omega

theorem right_xA (g1 g2 g3 g4 g5 : Nat) : rightB (XA g1 g2 g3 g4 g5) = true ∧ rightB (sloS (XA g1 g2 g3 g4 g5) 0 0) = true ∧ ((sloS (XA g1 g2 g3 g4 g5) 0 0).f11.z 0).f6 = 3 ∧ ((sloS (XA g1 g2 g3 g4 g5) 0 0).f11.z 0).f3 = true ∧ (sloS (XA g1 g2 g3 g4 g5) 0 0).f11.n = 1 :=
  ⟨by kernel_rfl, by kernel_rfl, by kernel_rfl, by kernel_rfl, by kernel_rfl⟩

theorem sq_xA (g1 g2 g3 g4 g5 : Nat) : sqE (XA g1 g2 g3 g4 g5) 0 = 0 ∧ sqS (XA g1 g2 g3 g4 g5) 0 = sloS (XA g1 g2 g3 g4 g5) 0 0 ∧ lqE (XA g1 g2 g3 g4 g5) 1 = 1 := by
  obtain ⟨r1, r2, _⟩ := right_xA g1 g2 g3 g4 g5
  obtain ⟨p1, p2⟩ := pr_xA g1 g2 g3 g4 g5
  have hs : slS (XA g1 g2 g3 g4 g5) 0 = sloS (XA g1 g2 g3 g4 g5) 0 0 := by
    rw [sloS_S (ok_xA ..) (by show (0 : Int) < _; omega) 0 p1, p2]
    rfl
  have h1 : sqE (XA g1 g2 g3 g4 g5) 0 = 0 := by
    unfold sqE
    rw [r1, if_pos ⟨rfl, by show (0 : Int) < 1; omega⟩, p1, if_pos rfl, show ((0 : Int)).toNat = 0 from rfl, hs, r2]
    rfl
  refine ⟨h1, ?_, ?_⟩
  · unfold sqS
    rw [h1, if_pos rfl, show ((0 : Int)).toNat = 0 from rfl, hs]
  · unfold lqE
    rw [if_neg (fun h => by
      have : (1 : Int) < 1 := h.2
      omega)]

attribute [local go_sem ↓] lvState_eq svState_eq bdState_eq lvValidator_eq svValidator_eq ixValidator_eq bvV_eq bsV_eq ixU_eq

set_option maxHeartbeats 4000000 in
theorem awake18 (pL : PLeav) (pS : PSlas) (w : World) (hS : Sh w) :
    Calls Tryz.prog 4 #[] w fun e' w' => e' = .returned (.bool true) ∧ Below w.heap.size w w' := by
  have b1 := bvV_2
  have b2 := bsV_2
  obtain ⟨W5, hW5⟩ : ∃ W, (((((w.alloc (.cells (cel (sValidator oV2)) 62)).alloc (.cells #[.int .u64 32000000000] 22)).alloc (.cells #[.int .u8 0] 5)).alloc (.cells #[.int .u8 0] 5)).alloc (.cells #[.int .u64 0] 22)) = W := ⟨_, rfl⟩
  have v1 : W5.heap[w.heap.size]? = some (.cells (cel (sValidator oV2)) 62) := by rw [← hW5]; exact (heap_old (by simp <;> omega)).trans ((heap_old (by simp <;> omega)).trans ((heap_old (by simp <;> omega)).trans ((heap_old (by simp)).trans (heap_new rfl))))
  have v2 : W5.heap[w.heap.size + 1]? = some (.cells #[.int .u64 32000000000] 22) := by rw [← hW5]; exact (heap_old (by simp <;> omega)).trans ((heap_old (by simp <;> omega)).trans ((heap_old (by simp <;> omega)).trans (heap_new (by simp))))
  have v3 : W5.heap[w.heap.size + 2]? = some (.cells #[.int .u8 0] 5) := by rw [← hW5]; exact (heap_old (by simp <;> omega)).trans ((heap_old (by simp <;> omega)).trans (heap_new (by simp)))
  have v4 : W5.heap[w.heap.size + 3]? = some (.cells #[.int .u8 0] 5) := by rw [← hW5]; exact (heap_old (by simp <;> omega)).trans (heap_new (by simp))
  have v5 : W5.heap[w.heap.size + 4]? = some (.cells #[.int .u64 0] 22) := by rw [← hW5]; exact heap_new (by simp)
  have hB5 : Up w W5 := by rw [← hW5]; go_grown
  obtain ⟨x, ex⟩ : ∃ x, XA w.heap.size (w.heap.size + 1) (w.heap.size + 2) (w.heap.size + 3) (w.heap.size + 4) = x := ⟨_, rfl⟩
  have bd : ∀ W : World, (bdState #[(11, .slice (some ⟨w.heap.size, 0, none⟩) 1 1), (12, .slice (some ⟨w.heap.size + 1, 0, none⟩) 1 1), (15, .slice (some ⟨w.heap.size + 2, 0, none⟩) 1 1), (16, .slice (some ⟨w.heap.size + 3, 0, none⟩) 1 1), (21, .slice (some ⟨w.heap.size + 4, 0, none⟩) 1 1)]).run Tryz.prog W = .ok (.agg (cel (sState x))) W := fun W => by rw [← ex]; exact bd_xA W _ _ _ _ _
  have hq := sq_xA w.heap.size (w.heap.size + 1) (w.heap.size + 2) (w.heap.size + 3) (w.heap.size + 4)
  have hr := right_xA w.heap.size (w.heap.size + 1) (w.heap.size + 2) (w.heap.size + 3) (w.heap.size + 4)
  have hok := ok_xA w.heap.size (w.heap.size + 1) (w.heap.size + 2) (w.heap.size + 3) (w.heap.size + 4)
  have hin : InW W5 x := by
    rw [← ex]
    refine ⟨.inl ⟨rfl, rfl, rfl⟩, .inl rfl, .inr ⟨_, 0, rfl, some_ltK v1, fun i hi => ?_⟩, .inr ⟨_, 0, rfl, some_ltK v2, fun i hi => ?_⟩, .inr (.inr ⟨_, 0, rfl, Nat.le_refl _, by show 1 ≤ _; omega, some_ltK v3, fun i hi => ?_⟩), .inr (.inr ⟨_, 0, rfl, Nat.le_refl _, by show 1 ≤ _; omega, some_ltK v4, fun i hi => ?_⟩), .inr ⟨_, 0, rfl, some_ltK v5, fun i hi => ?_⟩⟩
    · obtain rfl : i = 0 := by have : i < 1 := hi; omega
      exact range_x2 v1
    · obtain rfl : i = 0 := by have : i < 1 := hi; omega
      exact (row_cell (i := 0) v2).trans rfl
    · obtain rfl : i = 0 := by have : i < 1 := hi; omega
      exact (row_cell (i := 0) v3).trans rfl
    · obtain rfl : i = 0 := by have : i < 1 := hi; omega
      exact (row_cell (i := 0) v4).trans rfl
    · obtain rfl : i = 0 := by have : i < 1 := hi; omega
      exact (row_cell (i := 0) v5).trans rfl
  have hni : NilW x := by rw [← ex]; exact ⟨fun _ => ⟨rfl, rfl⟩, fun h => (by cases h), fun h => (by cases h), fun h => (by cases h)⟩
  have hln : Lns x := by rw [← ex]; exact ⟨by show 1 ≤ _; omega, by show 1 ≤ _; omega, by show 1 ≤ _; omega⟩
  rw [ex] at hq hr hok
  have hsl : ∀ W, Up W5 W → Calls Tryz.prog 5 #[.agg (cel (sState x)), .int .u64 0] W fun e' w' => ∃ X, e' = .returned (.tuple #[.agg (cel (sState X)), .int .i64 0]) ∧ Res W.heap.size w' (sloS x 0 0) X ∧ Below W.heap.size W w' := fun W h => by
    have := pS x 0 W hok (hin.below h) hni hln (Int.le_refl _) (hS.below (upT hB5 h))
    rw [hq.1, hq.2.1] at this
    exact this
  have hlv : ∀ W, Up W5 W → Calls Tryz.prog 9 #[.agg (cel (sState x)), .int .u64 1] W fun e' w' => ∃ X, e' = .returned (.tuple #[.agg (cel (sState X)), .int .i64 1]) ∧ Below W.heap.size W w' := fun W h => by
    refine (pL x 1 W hok (hin.below h) hni hln (by omega)).mono ?_
    rintro e' w' ⟨X, rfl, _, hb⟩
    rw [hq.2.2]
    exact ⟨X, rfl, hb⟩
  obtain ⟨_, _, hx6, hx3, hxn⟩ := hr
  obtain ⟨xs, exs⟩ : ∃ s, sloS x 0 0 = s := ⟨_, rfl⟩
  rw [exs] at hsl hx6 hx3 hxn
  have z := zeroState
  obtain ⟨W6, b6, hW6, eb6, r6, hd6, _⟩ := upN2 (Below.refl W5.heap.size W5) (.cells (cel (sState x)) 49)
  have e6 : b6 = w.heap.size + 1 + 1 + 1 + 1 + 1 := by rw [← eb6, ← hW5]; simp
  have s6 : (svState ⟨w.heap.size + 1 + 1 + 1 + 1 + 1, 0, none⟩ (.agg (cel (sState x)))).run Tryz.prog ((((((w.alloc (.cells (cel (sValidator oV2)) 62)).alloc (.cells #[.int .u64 32000000000] 22)).alloc (.cells #[.int .u8 0] 5)).alloc (.cells #[.int .u8 0] 5)).alloc (.cells #[.int .u64 0] 22)).alloc (.cells (cel (sState oState)) 49)) = .ok () W6 := by
    have := svState_newv W5 oState x
    rw [hW6, eb6, e6] at this
    rw [hW5]
    exact this
  have HSL := hid hsl
  have HLV := hid hlv
  have HX := hid (And.intro hx6 (And.intro hx3 hxn))
  have R6 := hid r6
  have HD6 := hid hd6
  have HB5 := hid hB5
  have EB6 := hid eb6
  obtain ⟨ov, eov⟩ : ∃ v, oV2 = v := ⟨_, rfl⟩
  rw [eov] at b1 b2 s6
  have E6 := hid e6
  clear hsl hlv hx6 hx3 hxn r6 hd6 hB5 eb6 hW5 hW6 e6 hin hni hln hok hq pL pS hS v1 v2 v3 v4 v5 ex exs eov
  go_enter Tryz.func4, Tryz.ntmps4
  go_upto_region 2 with fail
  rw [← E6.out]
  clear s6 b1 b2 bd
  have l6 := lvState_run R6.out
  have HSL6 := hid (HSL.out W6 HD6.out)
  go_upto_region 3 with (go_at_call 5; refine HSL6.out.mono ?_; rintro e' w7 ⟨X, rfl, hrs, hb7⟩; have sv := svState_newv w7 oState X)
  obtain ⟨W7, y7, hW7, ey7, r7, hd7, _⟩ := upN2 hb7 (.cells (cel (sState X)) 49)
  rw [hW7, ey7]
  have hu7 := upT hb7 hd7
  have R7 := hid r7
  have HU7 := hid (upT HD6.out hu7)
  have HRS := hid (hrs.below hd7)
  have R67 := hid (upR hu7 R6.out)
  have HLV7 := hid (HLV.out W7 HU7.out)
  clear hW7 ey7 r7 hd7 hb7 hu7 hrs sv HSL HSL6 l6 HLV
  have l6 := lvState_run R67.out
  go_upto_region 4 with (go_at_call 9; refine HLV7.out.mono ?_; rintro e' w8 ⟨X8, rfl, hb8⟩; have sv := svState_newv w8 oState X8)
  obtain ⟨W8, y8, hW8, ey8, r8, hd8, _⟩ := upN2 hb8 (.cells (cel (sState X8)) 49)
  rw [hW8, ey8]
  have hu8 := upT hb8 hd8
  have hrs := HRS.out.below hu8
  have c11 := cS11 (upR hu8 R7.out)
  have hn1 : X.f11.n = 1 := by rw [hrs.sim.l11]; exact HX.out.2.2
  rcases hrs.inw.i11 with h0 | ⟨b, off, ea, hbl, hr⟩
  · omega
  have hr0 := hr 0 (by omega)
  rw [hn1, ea] at c11
  have e6 := val_e6 hr0
  have e3 := val_e3 hr0
  rw [hrs.sim.z11, HX.out.1] at e6
  rw [hrs.sim.z11, HX.out.2.1] at e3
  have ix : ∀ W, (ixValidator (.slice (some ⟨b, off, none⟩) 1 X.f11.c) (.int .i64 0)).run Tryz.prog W = .ok (.pointer (some ⟨b, off + 86 * 0, none⟩)) W := fun W => ixValidator_run W b off 1 X.f11.c 0 (by omega)
  obtain ⟨P, eP⟩ : ∃ P, off + 86 * 0 = P := ⟨_, rfl⟩
  rw [eP] at e6 e3
  simp only [eP] at ix
  have HU8 := hid (upT HB5.out (upT HU7.out hu8))
  generalize X.f11.c = C at c11 ix
  clear hW8 ey8 r8 hd8 hb8 hu8 hrs sv hr hr0 HRS R7 R67 HU7 HB5 HD6 eP ea hn1 l6 HLV7
  go_wp2
  go_ret
  exact ⟨rfl, HU8.out⟩

def ixBo (x i : Value) : Sem Value := Instr.indexAt 105 x i

theorem ixBo_eq (x i : Value) : Instr.indexAt 105 x i = ixBo x i := rfl

attribute [local go_sem ↓] ixBo_eq

end Go.Proofs.YtlplmdhlelgihaaGreatDoor
