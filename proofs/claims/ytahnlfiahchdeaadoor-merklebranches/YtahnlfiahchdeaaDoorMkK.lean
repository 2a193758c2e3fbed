/-
  The fixed answers that every statement of layer 5 asks first are right.
-/
import Derived.Test.YtahnlfiahchdeaaDoorMkJ
namespace Go.Proofs.YtahnlfiahchdeaaDoor
open Go.RowKit
set_option linter.unusedVariables false
set_option linter.unusedSimpArgs false

attribute [local go_sem ↓] sv24_eq lv24_eq ix22_eq slr_eq lv48_eq sv48_eq bd48_eq bd27_eq bs22_eq sl22_eq mk22_eq

theorem zr1_0 : zr 1 0 = 245 := by
  show shaV KW HW (cat (zr 0) (zr 0)) 64 0 = 245
  rw [shaV_congr (m' := zM) (fun i _ => by unfold cat zr zM; rw [ite_self]) 0 (by omega)]
  exact zero_0
theorem zeroV1 : zeroV 1 = zr 1 := by
  unfold zeroV
  rw [if_pos (by decide)]
  rfl
theorem treeV2 : treeV (fun _ => 0) 0 2 = zr 1 := by
  unfold treeV
  rw [if_pos ⟨⟨by decide, by decide⟩, by decide⟩]
  have : dpt (Int.toNat 2) = 1 := by decide
  rw [this]
  exact nd_zero _ 0 1 0 (by decide)
theorem holds1 (c : Nat → Int) (hc : c = zr 1) : holdsV (fun _ => 0) (fun _ => 0) 1 0 c = true := by
  subst hc
  unfold holdsV
  rw [decide_eq_true (by omega), Bool.true_and]
  have : upV (fun _ => 0) (fun _ => 0) 0 1 = zr 1 := by
    show (if 0 / 2 ^ 0 % 2 = 1 then _ else _) = _
    rw [if_neg (by decide)]
    rfl
  rw [this]
  exact eqR_self _
theorem rts_row {w : World} {g n : Nat} {f : Nat → Int} {t : TypeId} (h : w.heap[g]? = some (.cells (vs .u8 (32 * n) f) t)) : Rts w (some ⟨g, 0, none⟩) n n f :=
  .inr (.inr ⟨g, 0, rfl, Nat.le_refl _, (Array.getElem?_eq_some_iff.1 h).1, fun j hj => by rw [Nat.zero_add]; exact row_int h j hj⟩)

set_option maxRecDepth 20000 in
set_option maxHeartbeats 1000000 in
theorem awake_any (w : World) (hS : Sh w) :
    Calls Tryd.prog 9 #[] w fun e w' => e = .returned (.bool true) ∧ Below w.heap.size w w' := by
  have HS := hid hS
  have z := zero_root
  have hzz := zero_any 1 w hS (by omega) (by omega)
  rw [zeroV1, show zeroE 1 = 0 from rfl] at hzz
  have c0 := zr1_0
  have hh := fun c hc => holds1 c hc
  obtain ⟨C, hC⟩ : ∃ C, zr 1 = C := ⟨_, rfl⟩
  have hCb : ∀ j, 0 ≤ C j ∧ C j < 256 := fun j => by rw [← hC]; exact zr_bd 1 j
  rw [hC] at hzz c0
  have HC := hid hC
  have HZZ := hid hzz
  have sv := fun W => sv24_newv W (fun _ => 0) C
  clear hS hzz hC hh
  go_enter Tryd.func9, Tryd.ntmps9
  go_upto_region 2 with (go_at_call 13; refine HZZ.out.mono ?_; rintro e w1 ⟨rfl, hb1⟩)
  obtain ⟨W1, hW1⟩ : ∃ W, w1.alloc (.cells (vs .u8 32 C) 27) = W := ⟨_, rfl⟩
  rw [hW1]
  have r1 : W1.heap[w1.heap.size]? = some (.cells (vs .u8 32 C) 27) := by rw [← hW1]; exact heap_new rfl
  have z1 : w1.heap.size < W1.heap.size := by rw [← hW1]; simp
  have hB1 : Below w.heap.size w W1 := by rw [← hW1]; exact hb1.alloc hb1.size _
  have y1 := hb1.size
  obtain ⟨y, ey⟩ : ∃ y, w1.heap.size = y := ⟨_, rfl⟩
  rw [ey] at r1 z1 y1 ⊢
  have htr := tree_any none 0 0 (fun _ => 0) 2 W1 (.inl ⟨rfl, rfl, rfl⟩) (by omega) (fun q hq => by omega) (HS.out.below hB1) (by omega) (by omega)
  rw [treeV2, show treeE 0 2 = 0 from rfl, HC.out] at htr
  have HTR := hid htr
  have R1 := hid r1
  have HB1 := hid hB1
  clear htr r1 hB1 hW1 ey hb1 HZZ w1
  go_upto_region 3 with (go_at_call 10; refine HTR.out.mono ?_; rintro e w2 ⟨rfl, hb2⟩)
  obtain ⟨W2, hW2⟩ : ∃ W, w2.alloc (.cells (vs .u8 32 C) 27) = W := ⟨_, rfl⟩
  rw [hW2]
  have y2 := hb2.size
  have r1 : W2.heap[y]? = some (.cells (vs .u8 32 C) 27) := by rw [← hW2]; exact (heap_old (by omega)).trans ((hb2.block y z1).trans R1.out)
  have r2 : W2.heap[w2.heap.size]? = some (.cells (vs .u8 32 C) 27) := by rw [← hW2]; exact heap_new rfl
  have hB2 : Below w.heap.size w W2 := by rw [← hW2]; exact (HB1.out.trans (hb2.mono (by omega))).alloc (by omega) _
  have z2 : y < W2.heap.size := by rw [← hW2]; simp; omega
  obtain ⟨y', ey'⟩ : ∃ y, w2.heap.size = y := ⟨_, rfl⟩
  rw [ey'] at r2 ⊢
  have l1 := lv24_run r1
  have l2 := lv24_run r2
  have q1 := fun W => (eq32g W C C)
  rw [eqR_self] at q1
  have k1 := row_int r1 0 (by omega)
  rw [c0] at k1
  have b27 := bd27_0
  have b22 := bs22_1 W2 (fun _ => 0)
  obtain ⟨W3, hW3⟩ : ∃ W, W2.alloc (.cells (vs .u8 32 fun _ => 0) 27) = W := ⟨_, rfl⟩
  rw [hW3] at b22
  have r3 : W3.heap[W2.heap.size]? = some (.cells (vs .u8 (32 * 1) fun _ => 0) 27) := by rw [← hW3]; exact heap_new rfl
  have r13 : W3.heap[y]? = some (.cells (vs .u8 32 C) 27) := by rw [← hW3]; exact (heap_old z2).trans r1
  have l3 := lv24_run r13
  have hB3 : Below w.heap.size w W3 := by rw [← hW3]; exact hB2.alloc hB2.size _
  have hho := holds_any (fun _ => 0) C (fun _ => 0) (some ⟨W2.heap.size, 0, none⟩) 1 1 0 W3 (HS.out.below hB3) (fun j _ => by omega) (rts_row r3) (fun q _ => by show (0 : Int) ≤ 0 ∧ (0 : Int) < 256; decide) (by omega) (by omega)
  rw [holds1 C HC.out.symm, show ((0 : Nat) : Int) = 0 from rfl] at hho
  have HHO := hid hho
  have HB3 := hid hB3
  have hpk : ∀ W : World, Calls Tryd.prog 15 #[.slice (some ⟨W.heap.size, 0, none⟩) 1 1] (W.alloc (.cells #[.int .u8 1] 5)) fun e w' => ∃ g, e = .returned (.slice (some ⟨g, 0, none⟩) 1 1) ∧ Below W.heap.size W w' := by
    intro W
    refine (pack_any (some ⟨W.heap.size, 0, none⟩) 1 1 (fun _ => 1) (W.alloc (.cells #[.int .u8 1] 5)) (.inr (.inr ⟨W.heap.size, 0, rfl, Nat.le_refl _, by omega, by simp, fun j hj => ?_⟩)) (by omega)).mono ?_
    · obtain rfl : j = 0 := by omega
      exact row_cell (heap_new rfl) 0
    · rintro e w' ⟨rfl, hb, _, _⟩
      exact ⟨_, rfl, ((Below.refl _ _).alloc (Nat.le_refl _) _).trans (hb.mono (by simp))⟩
  have HPK := hid hpk
  clear hpk hho hB3 r3 r13 hW3 hB2 r1 r2 hW2 hb2 HTR sv z
  go_wp2_with (first
    | (go_at_call 21; refine HHO.out.mono ?_; rintro e w4 ⟨rfl, hb4⟩)
    | (go_at_call 15; refine (HPK.out _).mono ?_; rintro e w5 ⟨g, rfl, hb5⟩))
  go_ret
  refine ⟨rfl, ?_⟩
  have := HB3.out.size
  have := hb4.size
  exact HB3.out.trans ((hb4.mono (by omega)).trans (hb5.mono (by omega)))

end Go.Proofs.YtahnlfiahchdeaaDoor
