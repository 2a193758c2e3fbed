/-
  What the statements' own awake answers, by what the program's functions answer.
-/

import Derived.Test.YtmjdofegmelgbaaDoorLkJ
namespace Go.Proofs.YtmjdofegmelgbaaDoor

open Go.RowKit

set_option linter.unusedVariables false

set_option linter.unusedSimpArgs false

set_option maxRecDepth 100000

attribute [local go_sem ↓] lvState_eq svState_eq bdState_eq lvValidator_eq svValidator_eq ixValidator_eq bvV_eq bsV_eq

set_option maxHeartbeats 4000000 in
theorem awake13 (pA : PActive) (pC : PChurn) (pR : PReward) : PAwake := fun w => by
  have b1 := bvV_1
  have b2 := bsV_1
  have b3 := bd_x0
  have z := zeroState
  have hA8 : ∀ W : World, Calls Tryd.prog 13 #[.agg (cel (sValidator oV1)), .int .u64 8] W fun e' w' => e' = .returned (.bool true) ∧ Below W.heap.size W w' := fun W => pA oV1 8 W okV1
  have hA9 : ∀ W : World, Calls Tryd.prog 13 #[.agg (cel (sValidator oV1)), .int .u64 9] W fun e' w' => e' = .returned (.bool false) ∧ Below W.heap.size W w' := fun W => pA oV1 9 W okV1
  have hC : ∀ (W : World) g1 g2 g3 g4 g5 t, W.heap[g1]? = some (.cells (cel (sValidator oV1)) t) → Calls Tryd.prog 14 #[.agg (cel (sState (X0 g1 g2 g3 g4 g5)))] W fun e' w' => e' = .returned (.int .u64 2) ∧ Below W.heap.size W w' := fun W g1 g2 g3 g4 g5 t h => by
    have := pC (X0 g1 g2 g3 g4 g5) W (lk_x0 h) (fun j _ => okV1)
    rwa [chu_x0] at this
  have hR : ∀ (W : World) g1 g2 g3 g4 g5 t, W.heap[g1]? = some (.cells (cel (sValidator oV1)) t) → Calls Tryd.prog 12 #[.agg (cel (sState (X0 g1 g2 g3 g4 g5))), .int .u64 0] W fun e' w' => e' = .returned (.tuple #[.int .u64 11448672, .int .i64 0]) ∧ Below W.heap.size W w' := fun W g1 g2 g3 g4 g5 t h => by
    have := pR (X0 g1 g2 g3 g4 g5) 178885 0 W (lk_x0 h) (fun j _ => okV1) (by rw [all_x0]; unfold IsRut; omega) (by omega)
    rwa [rewA_x0, rewE_x0] at this
  obtain ⟨v1, ev1⟩ : ∃ v, oV1 = v := ⟨_, rfl⟩
  obtain ⟨W5, hW5⟩ : ∃ W, ((((w.alloc (.cells (cel (sValidator oV1)) 58)).alloc (.cells #[.int .u64 0] 22)).alloc (.cells #[.int .u8 0] 5)).alloc (.cells #[.int .u8 0] 5)).alloc (.cells #[.int .u64 0] 22) = W := ⟨_, rfl⟩
  have z5 : W5.heap.size = w.heap.size + 1 + 1 + 1 + 1 + 1 := by rw [← hW5]; simp
  have hs := svState_newv W5 oState (X0 w.heap.size (w.heap.size + 1) (w.heap.size + 1 + 1) (w.heap.size + 1 + 1 + 1) (w.heap.size + 1 + 1 + 1 + 1))
  have hr5 : W5.heap[w.heap.size]? = some (.cells (cel (sValidator oV1)) 58) := by rw [← hW5]; exact (heap_old (by simp; omega)).trans ((heap_old (by simp; omega)).trans ((heap_old (by simp; omega)).trans ((heap_old (by simp)).trans (heap_new rfl))))
  have hb5 : Below w.heap.size w W5 := by rw [← hW5]; go_grown
  rw [z5, ← hW5] at hs
  have hcx : ∀ (W : World) g g1 g2 g3 g4 g5 t, W.heap[g]? = some (.cells (cel (sState (X0 g1 g2 g3 g4 g5))) t) → W.cell? ⟨g, 721, none⟩ = some (.slice (some ⟨g1, 0, none⟩) 1 1) := fun W g g1 g2 g3 g4 g5 t h => cS11 h
  obtain ⟨X, eX⟩ : ∃ X : Nat → Nat → Nat → Nat → Nat → VState, X0 = X := ⟨_, rfl⟩
  rw [eX] at b3 hC hR hs hcx
  rw [ev1] at b1 b2 hA8 hA9 hC hR hs hW5 hr5
  have H5 := hid (And.intro hr5 hb5)
  have HW5 := hid hW5
  have Z5 := hid z5
  clear hr5 hb5 hW5 z5
  have HA8 := hid hA8
  have HA9 := hid hA9
  have HC := hid hC
  have HR := hid hR
  have HCX := hid hcx
  clear hA8 hA9 hC hR hcx ev1 eX pA pC pR
  obtain ⟨xo, exo⟩ : ∃ x, oState = x := ⟨_, rfl⟩
  rw [exo] at z hs
  clear exo
  go_enter Tryd.func4, Tryd.ntmps4
  go_upto_region 2 with fail
  rw [HW5.out]
  clear hs HW5 z
  obtain ⟨XX, eXX⟩ : ∃ x, X w.heap.size (w.heap.size + 1) (w.heap.size + 1 + 1) (w.heap.size + 1 + 1 + 1) (w.heap.size + 1 + 1 + 1 + 1) = x := ⟨_, rfl⟩
  have hcx := fun (W : World) g t (h : W.heap[g]? = some (.cells (cel (sState XX)) t)) => HCX.out W g w.heap.size (w.heap.size + 1) (w.heap.size + 1 + 1) (w.heap.size + 1 + 1 + 1) (w.heap.size + 1 + 1 + 1 + 1) t (by rw [eXX]; exact h)
  have hC := fun (W : World) t (h : W.heap[w.heap.size]? = some (.cells (cel (sValidator v1)) t)) => HC.out W w.heap.size (w.heap.size + 1) (w.heap.size + 1 + 1) (w.heap.size + 1 + 1 + 1) (w.heap.size + 1 + 1 + 1 + 1) t h
  have hR := fun (W : World) t (h : W.heap[w.heap.size]? = some (.cells (cel (sValidator v1)) t)) => HR.out W w.heap.size (w.heap.size + 1) (w.heap.size + 1 + 1) (w.heap.size + 1 + 1 + 1) (w.heap.size + 1 + 1 + 1 + 1) t h
  rw [eXX] at hC hR ⊢
  obtain ⟨W6, hW6⟩ : ∃ W, W5.alloc (.cells (cel (sState XX)) 49) = W := ⟨_, rfl⟩
  have hz5 := Z5.out
  have r6 : W6.heap[w.heap.size + 1 + 1 + 1 + 1 + 1]? = some (.cells (cel (sState XX)) 49) := by rw [← hW6]; exact heap_new hz5.symm
  have v6 : W6.heap[w.heap.size]? = some (.cells (cel (sValidator v1)) 58) := by rw [← hW6]; exact (heap_old (by omega)).trans H5.out.1
  have hB6 : Below w.heap.size w W6 := by rw [← hW6]; exact H5.out.2.alloc H5.out.2.size _
  have z6 : w.heap.size + 1 + 1 + 1 + 1 + 1 < W6.heap.size := (Array.getElem?_eq_some_iff.1 r6).1
  rw [hW6]
  obtain ⟨y, ey⟩ : ∃ y, w.heap.size + 1 + 1 + 1 + 1 + 1 = y := ⟨_, rfl⟩
  rw [ey] at r6 z6 ⊢
  have hz : w.heap.size < W6.heap.size := by omega
  have ix0 : ∀ W : World, (ixValidator (.slice (some ⟨w.heap.size, 0, none⟩) 1 1) (.int .i64 0)).run Tryd.prog W = .ok (.pointer (some ⟨w.heap.size, 0, none⟩)) W := fun W => ixValidator_run W w.heap.size 0 1 1 0 (by omega)
  have hcs : ∀ W : World, Below W6.heap.size W6 W → W.cell? ⟨y, 721, none⟩ = some (.slice (some ⟨w.heap.size, 0, none⟩) 1 1) := fun W h => hcx W y 49 ((h.block _ z6).trans r6)
  have hls : ∀ W : World, Below W6.heap.size W6 W → (lvState ⟨y, 0, none⟩).run Tryd.prog W = .ok (.agg (cel (sState XX))) W := fun W h => lvState_run ((h.block _ z6).trans r6)
  have hlv : ∀ W : World, Below W6.heap.size W6 W → (lvValidator ⟨w.heap.size, 0, none⟩).run Tryd.prog W = .ok (.agg (cel (sValidator v1))) W := fun W h => lvValidator_row ((h.block _ hz).trans v6)
  have hC6 : ∀ W : World, Below W6.heap.size W6 W → Calls Tryd.prog 14 #[.agg (cel (sState XX))] W fun e' w' => e' = .returned (.int .u64 2) ∧ Below W.heap.size W w' := fun W h => hC W 58 ((h.block _ hz).trans v6)
  have hR6 := hR W6 58 v6
  have l6 := hls W6 (Below.refl _ _)
  have HCS := hid hcs
  have HLS := hid hls
  have HLV := hid hlv
  have HC6 := hid hC6
  have HR6 := hid hR6
  have HB6 := hid hB6
  clear hcx hC hR r6 v6 hB6 z6 hW6 ey eXX hcs hls hlv hC6 hR6 HC HR HCX b1 b2 b3 H5 Z5 hz5
  go_upto_region 3 with (go_at_call 12; refine HR6.out.mono ?_; rintro e' w7 ⟨rfl, hb7⟩)
  have c7 := HCS.out w7 hb7
  have lv7 := HLV.out w7 hb7
  have HB7 := hid hb7
  clear l6 hb7
  go_wp2_with (first
    | (go_at_call 14; refine (HC6.out w9 hB9).mono ?_; rintro e' w10 ⟨rfl, hb10⟩)
    | (go_at_call 13; refine (HA9.out w8).mono ?_; rintro e' w9 ⟨rfl, hb9⟩; have hB9 := hB8.trans (hb9.mono hB8.size); have l9 := HLS.out w9 hB9)
    | (go_at_call 13; refine (HA8.out w7).mono ?_; rintro e' w8 ⟨rfl, hb8⟩; have hB8 := HB7.out.trans (hb8.mono HB7.out.size); have c8 := HCS.out w8 hB8; have lv8 := HLV.out w8 hB8))
  go_ret
  exact ⟨rfl, HB6.out.trans ((hB9.trans (hb10.mono hB9.size)).mono (by omega))⟩

end Go.Proofs.YtmjdofegmelgbaaDoor
