/-
  What the program's functions of layer 15 have to answer, and the statements' own alone and awake.
-/

import Derived.Test.YtpabbglbaimadaaDoorPkD
import Derived.Test.YtpabbglbaimadaaDoorCmC
namespace Go.Proofs.YtpabbglbaimadaaDoor

open Go.RowKit

set_option linter.unusedVariables false

set_option linter.unusedSimpArgs false

set_option maxRecDepth 100000

/-- Where all have the greatest balance each try takes its candidate. -/
theorem drL_rich {z : Nat → VValidator} {L : List Int} {s : Nat → Int} (hL : L ≠ []) (h : ∀ v ∈ L, (z v.toNat).f2 = 32000000000) : ∀ i, drL z L s (i + 1) = drL z L s i ++ [cdV L s i] := fun i => by
  have hb := lotV_bd s i
  have hc : cdV L s i ∈ L := mbr_mem L s (Nat.mod_lt _ (List.length_pos_iff.2 hL))
  have ht : tkB z L s i = true := by
    unfold tkB
    rw [h _ hc, decide_eq_true_eq]
    omega
  show (if tkB z L s i = true then drL z L s i ++ [cdV L s i] else drL z L s i) = _
  rw [if_pos ht]

theorem drL_full {z : Nat → VValidator} {L : List Int} {s : Nat → Int} (hL : L ≠ []) (h : ∀ v ∈ L, (z v.toNat).f2 = 32000000000) : ∀ i, (drL z L s i).length = i
  | 0 => rfl
  | i + 1 => by rw [drL_rich hL h i, List.length_append, drL_full hL h i]; rfl

theorem dw_rich {z : Nat → VValidator} {L : List Int} {s : Nat → Int} {want : Nat} (hL : L ≠ []) (h : ∀ v ∈ L, (z v.toNat).f2 = 32000000000) (hw : want ≤ 256) : dwE z L s want = 0 ∧ dwL z L s want = drL z L s want :=
  have k := dw_hit (z := z) (s := s) hL hw (drL_full hL h want)
  ⟨k.2, k.1⟩

/-- What the program's functions have to answer. -/
def PProp : Prop := ∀ (x : VState) (w : World), OkState x → Lk w x → Sh w → Calls Tryd.prog 9 #[.agg (cel (sState x))] w fun e' w' => e' = .returned (.tuple #[.int .u64 (prV x), .int .i64 (prE x)]) ∧ Below w.heap.size w w'

def PSync : Prop := ∀ (x : VState) (w : World), OkState x → Lk w x → Sh w → Calls Tryd.prog 12 #[.agg (cel (sState x))] w fun e' w' => ∃ a c, e' = .returned (.tuple #[.slice a (syL x).length c, .int .i64 (syE x)]) ∧ Nml w' a (syL x) ∧ Below w.heap.size w w'

/-- A state with one validator, that is active. -/
def X2 (g1 g2 g3 g4 g5 : Nat) : VState := { oState with f11 := ⟨some ⟨g1, 0, none⟩, 1, 1, fun _ => oV2⟩, f12 := ⟨some ⟨g2, 0, none⟩, 1, 1, fun _ => 0⟩, f15 := ⟨some ⟨g3, 0, none⟩, 1, 1, fun _ => 0⟩, f16 := ⟨some ⟨g4, 0, none⟩, 1, 1, fun _ => 0⟩, f21 := ⟨some ⟨g5, 0, none⟩, 1, 1, fun _ => 0⟩ }

theorem bd_x2 (W : World) (g1 g2 g3 g4 g5 : Nat) : (bdState #[(11, .slice (some ⟨g1, 0, none⟩) 1 1), (12, .slice (some ⟨g2, 0, none⟩) 1 1), (15, .slice (some ⟨g3, 0, none⟩) 1 1), (16, .slice (some ⟨g4, 0, none⟩) 1 1), (21, .slice (some ⟨g5, 0, none⟩) 1 1)]).run Tryd.prog W = .ok (.agg (cel (sState (X2 g1 g2 g3 g4 g5)))) W := by kernel_rfl

theorem bd_z15 (W : World) : (bdState #[]).run Tryd.prog W = .ok (.agg (cel (sState oState))) W := by kernel_rfl

theorem range_x2 {w : World} {g : Nat} {t : TypeId} (h : w.heap[g]? = some (.cells (cel (sValidator oV2)) t)) : w.rangeAt g 0 (celL (sValidator oV2)) := by
  intro j v hj
  rw [Nat.zero_add, row_cell h, ← hj]
  exact List.getElem?_toArray ..

theorem lk_x2 {w : World} {g1 g2 g3 g4 g5 : Nat} {t : TypeId} (h : w.heap[g1]? = some (.cells (cel (sValidator oV2)) t)) : Lk w (X2 g1 g2 g3 g4 g5) :=
  ⟨.inr ⟨g1, 0, rfl, (Array.getElem?_eq_some_iff.1 h).1, fun i hi => by
    obtain rfl : i = 0 := by have : i < 1 := hi; omega
    exact range_x2 h⟩, by show 1 ≤ 65536; omega, fun j _ => by show (0 : Int) ≤ 32000000000 ∧ (32000000000 : Int) ≤ 32000000000; omega, by show (0 : Int) ≤ 0 ∧ (0 : Int) < 1099511627776; omega⟩

theorem ok_x2 (g1 g2 g3 g4 g5 : Nat) : OkState (X2 g1 g2 g3 g4 g5) := by
  have z : (0 : Int) ≤ 0 ∧ (0 : Int) < 256 := by decide
  have zz : (0 : Int) ≤ 0 ∧ (0 : Int) < 18446744073709551616 := by decide
  have h := okCz
  exact ⟨h.o0, h.o1, h.o2, h.o3, h.o4, h.o5, h.o6, h.o7, h.o8, h.o9, h.o10, fun _ _ => okV2, fun _ _ => zz, h.o13, h.o14, fun _ _ => z, fun _ _ => z, h.o18, h.o19, h.o20, fun _ _ => zz, h.o22, h.o23⟩

theorem ok_z15 : OkState oState := by
  have h := okCz
  exact ⟨h.o0, h.o1, h.o2, h.o3, h.o4, h.o5, h.o6, h.o7, h.o8, h.o9, h.o10, fun _ hj => absurd hj (Nat.not_lt_zero _), fun _ hj => absurd hj (Nat.not_lt_zero _), h.o13, h.o14, fun _ hj => absurd hj (Nat.not_lt_zero _), fun _ hj => absurd hj (Nat.not_lt_zero _), h.o18, h.o19, h.o20, fun _ hj => absurd hj (Nat.not_lt_zero _), h.o22, h.o23⟩

theorem sy_x2 (g1 g2 g3 g4 g5 : Nat) : (syL (X2 g1 g2 g3 g4 g5)).length = 8 ∧ syE (X2 g1 g2 g3 g4 g5) = 0 := by
  have hL : acE (X2 g1 g2 g3 g4 g5) ((X2 g1 g2 g3 g4 g5).f2 / 4 + 1) = [0] := by kernel_rfl
  unfold syL syE
  rw [hL]
  obtain ⟨h1, h2⟩ := dw_rich (z := (X2 g1 g2 g3 g4 g5).f11.z) (L := [0]) (s := seedV (X2 g1 g2 g3 g4 g5) ((X2 g1 g2 g3 g4 g5).f2 / 4 + 1) 7) (want := 8) (by simp) (fun v _ => rfl) (by omega)
  rw [h1, h2]
  exact ⟨drL_full (by simp) (fun v _ => rfl) 8, rfl⟩

theorem pr_zero : prE oState = 7 := by
  have hL : acE oState (oState.f2 / 4) = [] := rfl
  unfold prE
  rw [hL]
  exact (dw_none (.inl rfl)).2

theorem lk_zero (w : World) : Lk w oState := ⟨.inl rfl, by show 0 ≤ 65536; omega, fun j hj => absurd hj (Nat.not_lt_zero _), by show (0 : Int) ≤ 0 ∧ (0 : Int) < 1099511627776; omega⟩

theorem setRow_other {w : World} {b k : Nat} {C : Array Value} (h : k ≠ b) : (w.setRow b C).heap[k]? = w.heap[k]? := by
  simp only [World.setRow, Array.getElem?_modify]
  rw [if_neg (fun e => h e.symm)]

attribute [local go_sem ↓] lvState_eq svState_eq bdState_eq lvValidator_eq svValidator_eq ixValidator_eq bvV_eq bsV_eq

set_option maxHeartbeats 4000000 in
theorem alone_any (w : World) : Calls Tryd.prog 21 #[] w fun e' w' => ∃ g1 g2 g3 g4 g5, e' = .returned (.agg (cel (sState (X2 g1 g2 g3 g4 g5)))) ∧ Lk w' (X2 g1 g2 g3 g4 g5) ∧ Below w.heap.size w w' := by
  have b1 := bvV_2
  have b2 := bsV_2
  have b3 := bd_x2
  have z := zeroState
  obtain ⟨W6, hW6⟩ : ∃ W, (((((w.alloc (.cells (cel (sState oState)) 49)).alloc (.cells (cel (sValidator oV2)) 57)).alloc (.cells #[.int .u64 0] 22)).alloc (.cells #[.int .u8 0] 5)).alloc (.cells #[.int .u8 0] 5)).alloc (.cells #[.int .u64 0] 22) = W := ⟨_, rfl⟩
  have r6 : W6.heap[w.heap.size]? = some (.cells (cel (sState oState)) 49) := by rw [← hW6]; exact (heap_old (by simp <;> omega)).trans ((heap_old (by simp <;> omega)).trans ((heap_old (by simp <;> omega)).trans ((heap_old (by simp <;> omega)).trans ((heap_old (by simp)).trans (heap_new rfl)))))
  have v6 : W6.heap[w.heap.size + 1]? = some (.cells (cel (sValidator oV2)) 57) := by rw [← hW6]; exact (heap_old (by simp <;> omega)).trans ((heap_old (by simp <;> omega)).trans ((heap_old (by simp <;> omega)).trans ((heap_old (by simp)).trans (heap_new (by simp)))))
  have hB6 : Below w.heap.size w W6 := by rw [← hW6]; go_grown
  have hs := fun g1 g2 g3 g4 g5 => svState_run r6 (X2 g1 g2 g3 g4 g5)
  have hlk : ∀ g2 g3 g4 g5 C, Lk (W6.setRow w.heap.size C) (X2 (w.heap.size + 1) g2 g3 g4 g5) := fun g2 g3 g4 g5 C => lk_x2 (t := 57) (by
    rw [show (W6.setRow w.heap.size C).heap[w.heap.size + 1]? = W6.heap[w.heap.size + 1]? from setRow_other (by omega)]
    exact v6)
  rw [← hW6] at hs
  obtain ⟨v2, ev2⟩ : ∃ v, oV2 = v := ⟨_, rfl⟩
  obtain ⟨X, eX⟩ : ∃ X : Nat → Nat → Nat → Nat → Nat → VState, X2 = X := ⟨_, rfl⟩
  obtain ⟨xo, exo⟩ : ∃ x, oState = x := ⟨_, rfl⟩
  rw [eX] at b3 hs hlk
  rw [ev2] at b1 b2 hs hW6
  rw [exo] at z hs hW6 r6
  have HW6 := hid hW6
  have HB6 := hid hB6
  have HR6 := hid r6
  have HLK := hid hlk
  have HEX := hid eX
  clear hW6 hB6 r6 v6 hlk ev2 eX exo
  go_enter Tryd.func21, Tryd.ntmps21
  go_wp2
  rw [HW6.out]
  obtain rfl := HEX.out
  refine retState1 0 w.heap.size _ 49 rfl rfl rfl (setRow_at HR6.out) ⟨_, _, _, _, _, rfl, HLK.out _ _ _ _ _, below_row HB6.out (Nat.le_refl _) _⟩

set_option maxHeartbeats 4000000 in
theorem awake15 (pP : PProp) (pS : PSync) (w : World) (hS : Sh w) :
    Calls Tryd.prog 7 #[] w fun e' w' => e' = .returned (.bool true) ∧ Below w.heap.size w w' := by
  have bd := bd_z15
  have hp : ∀ W : World, Below w.heap.size w W → Calls Tryd.prog 9 #[.agg (cel (sState oState))] W fun e' w' => e' = .returned (.tuple #[.int .u64 (prV oState), .int .i64 7]) ∧ Below W.heap.size W w' := fun W h => by
    have := pP oState W ok_z15 (lk_zero W) (hS.below h)
    rw [pr_zero] at this
    exact this
  have hs : ∀ (W : World) g1 g2 g3 g4 g5, Below w.heap.size w W → Lk W (X2 g1 g2 g3 g4 g5) → Calls Tryd.prog 12 #[.agg (cel (sState (X2 g1 g2 g3 g4 g5)))] W fun e' w' => ∃ a c, e' = .returned (.tuple #[.slice a 8 c, .int .i64 0]) ∧ Below W.heap.size W w' := fun W g1 g2 g3 g4 g5 h hl => by
    refine (pS _ W (ok_x2 g1 g2 g3 g4 g5) hl (hS.below h)).mono ?_
    rintro e' w' ⟨a, c, rfl, _, hb⟩
    obtain ⟨h1, h2⟩ := sy_x2 g1 g2 g3 g4 g5
    rw [h1, h2]
    exact ⟨a, c, rfl, hb⟩
  have hal := fun W => alone_any W
  generalize prV oState = PV at hp
  obtain ⟨xo, exo⟩ : ∃ x, oState = x := ⟨_, rfl⟩
  rw [exo] at bd hp
  obtain ⟨X, eX⟩ : ∃ X : Nat → Nat → Nat → Nat → Nat → VState, X2 = X := ⟨_, rfl⟩
  rw [eX] at hs
  simp only [eX] at hal
  have HP := hid hp
  have HS := hid hs
  have HAL := hid hal
  clear hp hs hal exo eX pP pS hS
  go_enter Tryd.func7, Tryd.ntmps7
  go_upto_region 2 with (go_at_call 9; refine (HP.out _ (Below.refl _ _)).mono ?_; rintro e' w1 ⟨rfl, hb1⟩)
  go_wp2_with (first
    | (go_at_call 21; refine (HAL.out _).mono ?_; rintro e' w2 ⟨g1, g2, g3, g4, g5, rfl, hl2, hb2⟩; have hB2 := hb1.trans (hb2.mono hb1.size))
    | (go_at_call 12; refine (HS.out _ _ _ _ _ _ hB2 hl2).mono ?_; rintro e' w3 ⟨a3, c3, rfl, hb3⟩; have hB3 := hB2.trans (hb3.mono hB2.size)))
  go_ret
  exact ⟨rfl, hB3⟩

end Go.Proofs.YtpabbglbaimadaaDoor
