/-
  What RootAttesterSlashing answers.
-/
import Derived.Test.YtokbhcgooboocaaGreatDoorOaAp
import Derived.Test.YtokbhcgooboocaaGreatDoorOiRp
import Derived.Test.YtokbhcgooboocaaGreatDoorOiCp
namespace Go.Proofs.YtokbhcgooboocaaGreatDoor
open Go.RowKit
set_option linter.unusedVariables false
set_option linter.unusedSimpArgs false
set_option maxRecDepth 20000

/-- The root of a value. -/
def hAttesterSlashing (x : VAttesterSlashing) : Nat → Int := treeV (fl7 [hIndexed x.f0, hIndexed x.f1]) 2 (2 : Nat)
theorem hIndexed_bd {x : VIndexed} (hx : OkIndexed x) (j : Nat) (hj : j < 32) : 0 ≤ hIndexed x j ∧ hIndexed x j < 256 := by
  refine treeV_bd (fl7_bd (fun c hc => ?_) _) _ j hj
  simp only [List.mem_cons, List.not_mem_nil, or_false] at hc
  rcases hc with rfl | rfl | rfl
  · exact fun j hj => lR_bd _ _ (fun j _ => nB_bd _ j) j hj
  · exact fun j hj => hData_bd hx.2.1 j hj
  · exact fun j hj => treeV_bd (pk_bd hx.2.2 _) _ j hj

attribute [local go_sem ↓] sv24_eq lv24_eq ix22_eq slr_eq bd27_eq bs22_eq lvIndexed_eq

set_option maxHeartbeats 2000000 in
theorem rootAttesterSlashing_bad0 (x : VAttesterSlashing) (w : World) (E : Int) (hE : E ≠ 0) (h0 : ∀ W, Below w.heap.size w W → Calls Tryz.prog 44 #[.agg (cel (sIndexed x.f0))] W fun e w' => e = .returned (.tuple #[.agg (vs .u8 32 (fun _ => 0)), .int .i64 E]) ∧ Below W.heap.size W w') :
    Calls Tryz.prog 13 #[.agg (cel (sAttesterSlashing x))] w fun e w' => e = .returned (.tuple #[.agg (vs .u8 32 fun _ => 0), .int .i64 E]) ∧ Below w.heap.size w w' := by
  have z := zero_root
  obtain ⟨y, ey⟩ : ∃ y, w.heap.size = y := ⟨_, rfl⟩
  obtain ⟨W1, hW1⟩ : ∃ W, w.alloc (.cells (cel (sAttesterSlashing x)) 48) = W := ⟨_, rfl⟩
  obtain ⟨W2, hW2⟩ : ∃ W, W1.alloc (.cells (vs .u8 32 fun _ => 0) 25) = W := ⟨_, rfl⟩
  obtain ⟨W0, hW0⟩ : ∃ W, W2 = W := ⟨_, rfl⟩
  have z1 : W1.heap.size = y + 1 := by rw [← hW1, ← ey]; simp
  have z2 : W2.heap.size = y + 2 := by rw [← hW2]; simp [z1]
  have z0 : y + 2 ≤ W0.heap.size := by rw [← hW0]; omega
  have hB0 : Below w.heap.size w W0 := by rw [← hW0, ← hW2, ← hW1]; exact ((Below.refl _ _).alloc (Nat.le_refl _) _).alloc (by simp) _
  have r1 : W0.heap[y]? = some (.cells (cel (sAttesterSlashing x)) 48) := by rw [← hW0]; rw [← hW2]; refine (heap_old (by omega)).trans ?_; rw [← hW1]; exact heap_new ey.symm
  have r2 : W0.heap[y + 1]? = some (.cells (vs .u8 32 fun _ => 0) 25) := by rw [← hW0]; rw [← hW2]; exact heap_new z1.symm
  have hry : ∀ X, Below (y + 1) W0 X → X.heap[y]? = some (.cells (cel (sAttesterSlashing x)) 48) := fun X h => (h.block _ (by omega)).trans r1
  have hrr : ∀ X, Below W0.heap.size W0 X → X.heap[y + 1]? = some (.cells (vs .u8 32 fun _ => 0) 25) := fun X h => (h.block _ (by omega)).trans r2
  have HL0 : Hid (∀ X, Below (y + 1) W0 X → (lvIndexed ⟨y, 0, none⟩).run Tryz.prog X = .ok (.agg (cel (sIndexed x.f0))) X) := fun X h => lvIndexed_mid (hry X h) 0 rfl rfl
  have HL1 : Hid (∀ X, Below (y + 1) W0 X → (lvIndexed ⟨y, 197, none⟩).run Tryz.prog X = .ok (.agg (cel (sIndexed x.f1))) X) := fun X h => lvIndexed_mid (hry X h) 197 rfl rfl
  have S0 := hid (Below.refl W0.heap.size W0)
  have HRR := hid hrr
  have HB0 := hid hB0
  have EY := hid ey
  have HY1 := hid (show y + 1 ≤ W0.heap.size by omega)
  have H0 : Hid (∀ X, Below W0.heap.size W0 X → _) := fun X h => h0 X (hB0.trans (h.mono hB0.size))
  have q0 : (E != 0) = true := by rw [bne_iff_ne]; exact hE
  clear hB0 r1 r2 hry hrr h0 hE
  go_enter Tryz.func13, Tryz.ntmps13
  go_upto_region 1 with fail
  clear hW0 hW1 hW2 ey z0 z1 z2
  have sv := fun W => sv24_newv W (fun _ => 0) (fun _ => 0)
  have l0 := HL0.out _ (S0.out.mono HY1.out)
  go_upto_region 2 with (go_at_call 44; refine (H0.out _ S0.out).mono ?_; rintro e X1 ⟨rfl, hb⟩)
  obtain ⟨Y1, hY⟩ : ∃ Y, X1.alloc (.cells (vs .u8 32 fun _ => 0) 25) = Y := ⟨_, rfl⟩
  rw [hY]
  have kY1 : Below X1.heap.size X1 Y1 := by rw [← hY]; exact (Below.refl _ _).alloc (Nat.le_refl _) _
  have rY1 : Y1.heap[X1.heap.size]? = some (.cells (vs .u8 32 fun _ => 0) 25) := by rw [← hY]; exact heap_new rfl
  obtain ⟨b1, eb⟩ : ∃ b, X1.heap.size = b := ⟨_, rfl⟩
  rw [eb] at rY1 ⊢
  have S1 := hid (S0.out.trans ((hb.trans (kY1.mono hb.size)).mono S0.out.size))
  have RY1 := hid rY1
  have BY1 := hid (hb.trans (kY1.mono hb.size))
  have RR := hid (HRR.out _ S1.out)
  have sr := sv24_run RR.out (fun _ => 0)
  clear l0 hb hY eb sv kY1 rY1 z
  have bb := bd27_0
  go_wp2
  refine ret24s _ _ (y + 1) _ 25 _ rfl rfl rfl rfl (setRow_at RR.out) ⟨rfl, ?_⟩
  have e0 := EY.out
  have e1 := HY1.out
  exact below_row (HB0.out.trans (S1.out.mono (by omega))) (by omega) _

set_option maxHeartbeats 2000000 in
theorem rootAttesterSlashing_bad1 (x : VAttesterSlashing) (w : World) (D0 : Nat → Int) (E : Int) (hE : E ≠ 0) (h0 : ∀ W, Below w.heap.size w W → Calls Tryz.prog 44 #[.agg (cel (sIndexed x.f0))] W fun e w' => e = .returned (.tuple #[.agg (vs .u8 32 D0), .int .i64 0]) ∧ Below W.heap.size W w') (h1 : ∀ W, Below w.heap.size w W → Calls Tryz.prog 44 #[.agg (cel (sIndexed x.f1))] W fun e w' => e = .returned (.tuple #[.agg (vs .u8 32 (fun _ => 0)), .int .i64 E]) ∧ Below W.heap.size W w') :
    Calls Tryz.prog 13 #[.agg (cel (sAttesterSlashing x))] w fun e w' => e = .returned (.tuple #[.agg (vs .u8 32 fun _ => 0), .int .i64 E]) ∧ Below w.heap.size w w' := by
  have z := zero_root
  obtain ⟨y, ey⟩ : ∃ y, w.heap.size = y := ⟨_, rfl⟩
  obtain ⟨W1, hW1⟩ : ∃ W, w.alloc (.cells (cel (sAttesterSlashing x)) 48) = W := ⟨_, rfl⟩
  obtain ⟨W2, hW2⟩ : ∃ W, W1.alloc (.cells (vs .u8 32 fun _ => 0) 25) = W := ⟨_, rfl⟩
  obtain ⟨W0, hW0⟩ : ∃ W, W2 = W := ⟨_, rfl⟩
  have z1 : W1.heap.size = y + 1 := by rw [← hW1, ← ey]; simp
  have z2 : W2.heap.size = y + 2 := by rw [← hW2]; simp [z1]
  have z0 : y + 2 ≤ W0.heap.size := by rw [← hW0]; omega
  have hB0 : Below w.heap.size w W0 := by rw [← hW0, ← hW2, ← hW1]; exact ((Below.refl _ _).alloc (Nat.le_refl _) _).alloc (by simp) _
  have r1 : W0.heap[y]? = some (.cells (cel (sAttesterSlashing x)) 48) := by rw [← hW0]; rw [← hW2]; refine (heap_old (by omega)).trans ?_; rw [← hW1]; exact heap_new ey.symm
  have r2 : W0.heap[y + 1]? = some (.cells (vs .u8 32 fun _ => 0) 25) := by rw [← hW0]; rw [← hW2]; exact heap_new z1.symm
  have hry : ∀ X, Below (y + 1) W0 X → X.heap[y]? = some (.cells (cel (sAttesterSlashing x)) 48) := fun X h => (h.block _ (by omega)).trans r1
  have hrr : ∀ X, Below W0.heap.size W0 X → X.heap[y + 1]? = some (.cells (vs .u8 32 fun _ => 0) 25) := fun X h => (h.block _ (by omega)).trans r2
  have HL0 : Hid (∀ X, Below (y + 1) W0 X → (lvIndexed ⟨y, 0, none⟩).run Tryz.prog X = .ok (.agg (cel (sIndexed x.f0))) X) := fun X h => lvIndexed_mid (hry X h) 0 rfl rfl
  have HL1 : Hid (∀ X, Below (y + 1) W0 X → (lvIndexed ⟨y, 197, none⟩).run Tryz.prog X = .ok (.agg (cel (sIndexed x.f1))) X) := fun X h => lvIndexed_mid (hry X h) 197 rfl rfl
  have S0 := hid (Below.refl W0.heap.size W0)
  have HRR := hid hrr
  have HB0 := hid hB0
  have EY := hid ey
  have HY1 := hid (show y + 1 ≤ W0.heap.size by omega)
  have H0 : Hid (∀ X, Below W0.heap.size W0 X → _) := fun X h => h0 X (hB0.trans (h.mono hB0.size))
  have H1 : Hid (∀ X, Below W0.heap.size W0 X → _) := fun X h => h1 X (hB0.trans (h.mono hB0.size))
  have q0 : (E != 0) = true := by rw [bne_iff_ne]; exact hE
  clear hB0 r1 r2 hry hrr h0 h1 hE
  go_enter Tryz.func13, Tryz.ntmps13
  go_upto_region 1 with fail
  clear hW0 hW1 hW2 ey z0 z1 z2
  have sv := fun W => sv24_newv W (fun _ => 0) D0
  have l0 := HL0.out _ (S0.out.mono HY1.out)
  go_upto_region 4 with (go_at_call 44; refine (H0.out _ S0.out).mono ?_; rintro e X1 ⟨rfl, hb⟩)
  obtain ⟨Y1, hY⟩ : ∃ Y, X1.alloc (.cells (vs .u8 32 D0) 25) = Y := ⟨_, rfl⟩
  rw [hY]
  have kY1 : Below X1.heap.size X1 Y1 := by rw [← hY]; exact (Below.refl _ _).alloc (Nat.le_refl _) _
  have rY1 : Y1.heap[X1.heap.size]? = some (.cells (vs .u8 32 D0) 25) := by rw [← hY]; exact heap_new rfl
  obtain ⟨b1, eb⟩ : ∃ b, X1.heap.size = b := ⟨_, rfl⟩
  rw [eb] at rY1 ⊢
  have S1 := hid (S0.out.trans ((hb.trans (kY1.mono hb.size)).mono S0.out.size))
  have RY1 := hid rY1
  have BY1 := hid (hb.trans (kY1.mono hb.size))
  clear l0 hb hY eb sv kY1 rY1
  have sv := fun W => sv24_newv W (fun _ => 0) (fun _ => 0)
  have l1 := HL1.out _ (S1.out.mono HY1.out)
  go_upto_region 5 with (go_at_call 44; refine (H1.out _ S1.out).mono ?_; rintro e X2 ⟨rfl, hb⟩)
  obtain ⟨Y2, hY⟩ : ∃ Y, X2.alloc (.cells (vs .u8 32 fun _ => 0) 25) = Y := ⟨_, rfl⟩
  rw [hY]
  have kY2 : Below X2.heap.size X2 Y2 := by rw [← hY]; exact (Below.refl _ _).alloc (Nat.le_refl _) _
  have rY2 : Y2.heap[X2.heap.size]? = some (.cells (vs .u8 32 fun _ => 0) 25) := by rw [← hY]; exact heap_new rfl
  obtain ⟨b2, eb⟩ : ∃ b, X2.heap.size = b := ⟨_, rfl⟩
  rw [eb] at rY2 ⊢
  have S2 := hid (S1.out.trans ((hb.trans (kY2.mono hb.size)).mono S1.out.size))
  have RY2 := hid rY2
  have BY2 := hid (hb.trans (kY2.mono hb.size))
  have RR := hid (HRR.out _ S2.out)
  have sr := sv24_run RR.out (fun _ => 0)
  clear l1 hb hY eb sv kY2 rY2 z
  have bb := bd27_0
  go_wp2
  refine ret24s _ _ (y + 1) _ 25 _ rfl rfl rfl rfl (setRow_at RR.out) ⟨rfl, ?_⟩
  have e0 := EY.out
  have e1 := HY1.out
  exact below_row (HB0.out.trans (S2.out.mono (by omega))) (by omega) _

set_option maxHeartbeats 2000000 in
theorem rootAttesterSlashing_ok (x : VAttesterSlashing) (w : World) (D0 D1 : Nat → Int) (hd0 : ∀ j, j < 32 → 0 ≤ D0 j ∧ D0 j < 256) (hd1 : ∀ j, j < 32 → 0 ≤ D1 j ∧ D1 j < 256) (h0 : ∀ W, Below w.heap.size w W → Calls Tryz.prog 44 #[.agg (cel (sIndexed x.f0))] W fun e w' => e = .returned (.tuple #[.agg (vs .u8 32 D0), .int .i64 0]) ∧ Below W.heap.size W w') (h1 : ∀ W, Below w.heap.size w W → Calls Tryz.prog 44 #[.agg (cel (sIndexed x.f1))] W fun e w' => e = .returned (.tuple #[.agg (vs .u8 32 D1), .int .i64 0]) ∧ Below W.heap.size W w') (hS : Sh w) :
    Calls Tryz.prog 13 #[.agg (cel (sAttesterSlashing x))] w fun e w' => e = .returned (.tuple #[.agg (vs .u8 32 (treeV (fl7 [D0, D1]) 2 (2 : Nat))), .int .i64 0]) ∧ Below w.heap.size w w' := by
  have z := zero_root
  obtain ⟨y, ey⟩ : ∃ y, w.heap.size = y := ⟨_, rfl⟩
  obtain ⟨W1, hW1⟩ : ∃ W, w.alloc (.cells (cel (sAttesterSlashing x)) 48) = W := ⟨_, rfl⟩
  obtain ⟨W2, hW2⟩ : ∃ W, W1.alloc (.cells (vs .u8 32 fun _ => 0) 25) = W := ⟨_, rfl⟩
  obtain ⟨W0, hW0⟩ : ∃ W, W2 = W := ⟨_, rfl⟩
  have z1 : W1.heap.size = y + 1 := by rw [← hW1, ← ey]; simp
  have z2 : W2.heap.size = y + 2 := by rw [← hW2]; simp [z1]
  have z0 : y + 2 ≤ W0.heap.size := by rw [← hW0]; omega
  have hB0 : Below w.heap.size w W0 := by rw [← hW0, ← hW2, ← hW1]; exact ((Below.refl _ _).alloc (Nat.le_refl _) _).alloc (by simp) _
  have r1 : W0.heap[y]? = some (.cells (cel (sAttesterSlashing x)) 48) := by rw [← hW0]; rw [← hW2]; refine (heap_old (by omega)).trans ?_; rw [← hW1]; exact heap_new ey.symm
  have r2 : W0.heap[y + 1]? = some (.cells (vs .u8 32 fun _ => 0) 25) := by rw [← hW0]; rw [← hW2]; exact heap_new z1.symm
  have hry : ∀ X, Below (y + 1) W0 X → X.heap[y]? = some (.cells (cel (sAttesterSlashing x)) 48) := fun X h => (h.block _ (by omega)).trans r1
  have hrr : ∀ X, Below W0.heap.size W0 X → X.heap[y + 1]? = some (.cells (vs .u8 32 fun _ => 0) 25) := fun X h => (h.block _ (by omega)).trans r2
  have HL0 : Hid (∀ X, Below (y + 1) W0 X → (lvIndexed ⟨y, 0, none⟩).run Tryz.prog X = .ok (.agg (cel (sIndexed x.f0))) X) := fun X h => lvIndexed_mid (hry X h) 0 rfl rfl
  have HL1 : Hid (∀ X, Below (y + 1) W0 X → (lvIndexed ⟨y, 197, none⟩).run Tryz.prog X = .ok (.agg (cel (sIndexed x.f1))) X) := fun X h => lvIndexed_mid (hry X h) 197 rfl rfl
  have S0 := hid (Below.refl W0.heap.size W0)
  have HRR := hid hrr
  have HB0 := hid hB0
  have EY := hid ey
  have HY1 := hid (show y + 1 ≤ W0.heap.size by omega)
  have H0 : Hid (∀ X, Below W0.heap.size W0 X → _) := fun X h => h0 X (hB0.trans (h.mono hB0.size))
  have H1 : Hid (∀ X, Below W0.heap.size W0 X → _) := fun X h => h1 X (hB0.trans (h.mono hB0.size))
  have hro : ∀ X g, Below W0.heap.size W0 X → X.heap[g]? = some (.cells (vs .u8 64 (fl7 [D0, D1])) 25) → Calls Tryz.prog 26 #[.slice (some ⟨g, 0, none⟩) 2 2] X fun e w' => e = .returned (.agg (vs .u8 32 (treeV (fl7 [D0, D1]) 2 (2 : Nat)))) ∧ Below X.heap.size X w' := fun X g h h2 =>
    orootof_any (some ⟨g, 0, none⟩) 2 2 (fl7 [D0, D1]) X (rts_row (n := 2) h2) (by omega) (fl7_bd (fun c hc => by
      simp only [List.mem_cons, List.not_mem_nil, or_false] at hc
      rcases hc with rfl | rfl
      · exact hd0
      · exact hd1) _) (hS.below (hB0.trans (h.mono hB0.size)))
  obtain ⟨D, eD⟩ : ∃ D, treeV (fl7 [D0, D1]) 2 (2 : Nat) = D := ⟨_, rfl⟩
  rw [eD] at hro ⊢
  have HRO := hid hro
  clear hB0 r1 r2 hry hrr h0 h1 hS hd0 hd1 hro eD
  go_enter Tryz.func13, Tryz.ntmps13
  go_upto_region 1 with fail
  clear hW0 hW1 hW2 ey z0 z1 z2
  have sv := fun W => sv24_newv W (fun _ => 0) D0
  have l0 := HL0.out _ (S0.out.mono HY1.out)
  go_upto_region 4 with (go_at_call 44; refine (H0.out _ S0.out).mono ?_; rintro e X1 ⟨rfl, hb⟩)
  obtain ⟨Y1, hY⟩ : ∃ Y, X1.alloc (.cells (vs .u8 32 D0) 25) = Y := ⟨_, rfl⟩
  rw [hY]
  have kY1 : Below X1.heap.size X1 Y1 := by rw [← hY]; exact (Below.refl _ _).alloc (Nat.le_refl _) _
  have rY1 : Y1.heap[X1.heap.size]? = some (.cells (vs .u8 32 D0) 25) := by rw [← hY]; exact heap_new rfl
  obtain ⟨b1, eb⟩ : ∃ b, X1.heap.size = b := ⟨_, rfl⟩
  rw [eb] at rY1 ⊢
  have S1 := hid (S0.out.trans ((hb.trans (kY1.mono hb.size)).mono S0.out.size))
  have RY1 := hid rY1
  have BY1 := hid (hb.trans (kY1.mono hb.size))
  clear l0 hb hY eb sv kY1 rY1
  have sv := fun W => sv24_newv W (fun _ => 0) D1
  have l1 := HL1.out _ (S1.out.mono HY1.out)
  go_upto_region 7 with (go_at_call 44; refine (H1.out _ S1.out).mono ?_; rintro e X2 ⟨rfl, hb⟩)
  obtain ⟨Y2, hY⟩ : ∃ Y, X2.alloc (.cells (vs .u8 32 D1) 25) = Y := ⟨_, rfl⟩
  rw [hY]
  have kY2 : Below X2.heap.size X2 Y2 := by rw [← hY]; exact (Below.refl _ _).alloc (Nat.le_refl _) _
  have rY2 : Y2.heap[X2.heap.size]? = some (.cells (vs .u8 32 D1) 25) := by rw [← hY]; exact heap_new rfl
  obtain ⟨b2, eb⟩ : ∃ b, X2.heap.size = b := ⟨_, rfl⟩
  rw [eb] at rY2 ⊢
  have S2 := hid (S1.out.trans ((hb.trans (kY2.mono hb.size)).mono S1.out.size))
  have RY2 := hid rY2
  have BY2 := hid (hb.trans (kY2.mono hb.size))
  have q1 := (BY2.out.block b1 (Array.getElem?_eq_some_iff.1 RY1.out).1).trans RY1.out
  have ly1 := lv24_run q1
  have ly2 := lv24_run RY2.out
  have bs := bs22_2 Y2 D0 D1
  obtain ⟨Y3, hY3⟩ : ∃ Y, Y2.alloc (.cells (vs .u8 64 (fl7 [D0, D1])) 25) = Y := ⟨_, rfl⟩
  have k3 : Below Y2.heap.size Y2 Y3 := by rw [← hY3]; exact (Below.refl _ _).alloc (Nat.le_refl _) _
  have S3 := hid (S2.out.trans (k3.mono S2.out.size))
  have HLA := hid (HRO.out Y3 Y2.heap.size S3.out (by rw [← hY3]; exact heap_new rfl))
  rw [hY3] at bs
  obtain ⟨u3, eu3⟩ : ∃ u, Y2.heap.size = u := ⟨_, rfl⟩
  rw [eu3] at bs HLA
  clear l1 hb hY eb sv kY2 rY2 z q1 hY3 k3 eu3
  go_wp2_with (go_at_call 26; refine HLA.out.mono ?_; rintro e Y ⟨rfl, hbY⟩; have SY := hid (S3.out.trans (hbY.mono S3.out.size)); have RR := hid (HRR.out _ SY.out); have sr := sv24_run RR.out D; clear hbY)
  refine ret24s _ _ (y + 1) _ 25 _ rfl rfl rfl rfl (setRow_at RR.out) ⟨rfl, ?_⟩
  have e0 := EY.out
  have e1 := HY1.out
  exact below_row (HB0.out.trans (SY.out.mono (by omega))) (by omega) _

end Go.Proofs.YtokbhcgooboocaaGreatDoor

namespace Go.Proofs.YtokbhcgooboocaaGreatDoor
open Go.RowKit
set_option linter.unusedVariables false
set_option linter.unusedSimpArgs false
set_option maxRecDepth 20000

attribute [local go_sem ↓] sv24_eq lv24_eq ix22_eq slr_eq bd27_eq bs22_eq lvIndexed_eq

set_option maxRecDepth 20000 in
set_option maxHeartbeats 2000000 in
theorem rrootAttesterSlashing_ok (x : VAttesterSlashing) (w : World) (hx : OkAttesterSlashing x) (hn0 : x.f0.n ≤ 64) (hn1 : x.f1.n ≤ 64) (hw0 : Z.Nms .u64 w x.f0.a x.f0.n x.f0.zs) (hw1 : Z.Nms .u64 w x.f1.a x.f1.n x.f1.zs) (hC : Rc w) :
    Calls Tryz.prog 15 #[.agg (cel (sAttesterSlashing x))] w fun e w' => e = .returned (.tuple #[.agg (vs .u8 32 (hAttesterSlashing x)), .int .i64 0]) ∧ Below w.heap.size w w' := by
  have z := zero_root
  have zc : ∀ W : World, (zeroValue 81).run Tryz.prog W = .ok (.agg (vs .u8 64 (fl7 [fun _ => 0, fun _ => 0]))) W := (zero_of_info (n := 64) (by kernel_rfl)).1
  obtain ⟨y, ey⟩ : ∃ y, w.heap.size = y := ⟨_, rfl⟩
  obtain ⟨W1, hW1⟩ : ∃ W, w.alloc (.cells (cel (sAttesterSlashing x)) 48) = W := ⟨_, rfl⟩
  obtain ⟨W2, hW2⟩ : ∃ W, W1.alloc (.cells (vs .u8 32 fun _ => 0) 25) = W := ⟨_, rfl⟩
  obtain ⟨V0, hV0⟩ : ∃ W, W2.alloc (.cells (vs .u8 64 (fl7 [fun _ => 0, fun _ => 0])) 81) = W := ⟨_, rfl⟩
  have z1 : W1.heap.size = y + 1 := by rw [← hW1, ← ey]; simp
  have z2 : W2.heap.size = y + 2 := by rw [← hW2]; simp [z1]
  have z3 : V0.heap.size = y + 3 := by rw [← hV0]; simp [z2]
  have hB0 : Below w.heap.size w V0 := by rw [← hV0, ← hW2, ← hW1]; exact (((Below.refl _ _).alloc (Nat.le_refl _) _).alloc (by simp) _).alloc (by simp; omega) _
  have r1 : V0.heap[y]? = some (.cells (cel (sAttesterSlashing x)) 48) := by rw [← hV0]; refine (heap_old (by omega)).trans ?_; rw [← hW2]; refine (heap_old (by omega)).trans ?_; rw [← hW1]; exact heap_new ey.symm
  have r2 : V0.heap[y + 1]? = some (.cells (vs .u8 32 fun _ => 0) 25) := by rw [← hV0]; refine (heap_old (by omega)).trans ?_; rw [← hW2]; exact heap_new z1.symm
  have r3 : V0.heap[y + 2]? = some (.cells (vs .u8 (32 * 2) (fl7 [fun _ => 0, fun _ => 0])) 81) := by rw [← hV0]; exact heap_new z2.symm
  have hry : ∀ X, Below (y + 2) V0 X → X.heap[y]? = some (.cells (cel (sAttesterSlashing x)) 48) := fun X h => (h.block _ (by omega)).trans r1
  have hrr : ∀ X, Below (y + 2) V0 X → X.heap[y + 1]? = some (.cells (vs .u8 32 fun _ => 0) 25) := fun X h => (h.block _ (by omega)).trans r2
  have hRc : ∀ X, Below (y + 2) V0 X → Rc X := fun X h => hC.below (hB0.trans (h.mono (by omega)))
  have HL0 : Hid (∀ X, Below (y + 2) V0 X → (lvIndexed ⟨y, 0, none⟩).run Tryz.prog X = .ok (.agg (cel (sIndexed x.f0))) X) := fun X h => lvIndexed_mid (hry X h) 0 rfl rfl
  have hc0 : ∀ X, Below (y + 2) V0 X → Calls Tryz.prog 46 #[.agg (cel (sIndexed x.f0))] X fun e w' => e = .returned (.tuple #[.agg (vs .u8 32 (hIndexed x.f0)), .int .i64 0]) ∧ Below X.heap.size X w' := fun X h => rrootIndexed_ok x.f0 X hx.1 hn0 (hw0.below (hB0.trans (h.mono (by omega)))) (hRc X h)
  have hd0 : ∀ j, j < 32 → 0 ≤ (hIndexed x.f0) j ∧ (hIndexed x.f0) j < 256 := fun j hj => hIndexed_bd hx.1 j hj
  have HL1 : Hid (∀ X, Below (y + 2) V0 X → (lvIndexed ⟨y, 197, none⟩).run Tryz.prog X = .ok (.agg (cel (sIndexed x.f1))) X) := fun X h => lvIndexed_mid (hry X h) 197 rfl rfl
  have hc1 : ∀ X, Below (y + 2) V0 X → Calls Tryz.prog 46 #[.agg (cel (sIndexed x.f1))] X fun e w' => e = .returned (.tuple #[.agg (vs .u8 32 (hIndexed x.f1)), .int .i64 0]) ∧ Below X.heap.size X w' := fun X h => rrootIndexed_ok x.f1 X hx.2 hn1 (hw1.below (hB0.trans (h.mono (by omega)))) (hRc X h)
  have hd1 : ∀ j, j < 32 → 0 ≤ (hIndexed x.f1) j ∧ (hIndexed x.f1) j < 256 := fun j hj => hIndexed_bd hx.2 j hj
  have eh : ∀ j, j < 32 → treeV (fl7 [hIndexed x.f0, hIndexed x.f1]) 2 (2 : Nat) j = hAttesterSlashing x j := fun j hj => treeV_congr (fun q hq => by
    unfold fl7
    have hq5 := Nat.mod_lt q (show 0 < 32 by omega)
    rcases (by omega : q / 32 = 0 ∨ q / 32 = 1) with e | e
    · first | (rw [e]; done) | (rw [e]; rfl)
    · first | (rw [e]; done) | (rw [e]; rfl)
    ) _ j hj
  obtain ⟨C0, eC0⟩ : ∃ C, hIndexed x.f0 = C := ⟨_, rfl⟩
  rw [eC0] at hd0 hc0
  simp only [eC0] at eh
  have HC0 := hid hc0
  obtain ⟨C1, eC1⟩ : ∃ C, hIndexed x.f1 = C := ⟨_, rfl⟩
  rw [eC1] at hd1 hc1
  simp only [eC1] at eh
  have HC1 := hid hc1
  have hmu : ∀ X, Below (y + 2) V0 X → X.heap[y + 2]? = some (.cells (vs .u8 (32 * 2) (fl7 [C0, C1])) 81) → Calls Tryz.prog 33 #[.slice (some ⟨y + 2, 0, none⟩) 2 2, .int .i64 2] X fun e w' => e = .returned (.agg (vs .u8 32 (hAttesterSlashing x))) ∧ Below X.heap.size X w' := fun X h h2 => by
    have := must7 (some ⟨y + 2, 0, none⟩) 2 2 (fl7 [C0, C1]) (2 : Nat) X (hRc X h) (rts_row h2) (by omega) (fl7_bd (fun c hc => by
      simp only [List.mem_cons, List.not_mem_nil, or_false] at hc
      rcases hc with rfl | rfl
      · exact hd0
      · exact hd1
      ) _) (by decide) (by decide) (by decide)
    rw [vs_congr (fun j hj => eh j hj)] at this
    exact this
  obtain ⟨D, eD⟩ : ∃ D, hAttesterSlashing x = D := ⟨_, rfl⟩
  rw [eD] at hmu ⊢
  obtain ⟨u, eu⟩ : ∃ u, y + 2 = u := ⟨_, rfl⟩
  rw [eu] at hmu
  have HU := hid eu
  have HMU := hid hmu
  have HRR := hid hrr
  have HB0w := hid hB0
  have EY := hid ey
  have Z3 := hid z3
  have HX := hid hx
  have RV0 := hid r3
  have SV0 := hid (Below.refl (y + 2) V0)
  rw [eu] at RV0
  clear hmu hrr hB0 z3 r1 r2 r3 hry hRc hx hC eh eD hd0 eC0 hc0 hd1 eC1 hc1 hw0 hw1 hn0 hn1
  go_enter Tryz.func15, Tryz.ntmps15
  go_upto_region 3 with fail
  clear hW1 hW2 hV0 z1 z2 ey z zc
  try rw [eu]
  clear eu
  have ld := HL0.out _ SV0.out
  go_upto_region 6 with (go_at_call 46; refine (HC0.out _ SV0.out).mono ?_; rintro e X0 ⟨rfl, hb⟩; have sb := SV0.out.trans (hb.mono (by have h1 := HU.out; have h2 := Z3.out; have h3 := SV0.out.size; omega)); have rb := (hb.block _ (Array.getElem?_eq_some_iff.1 RV0.out).1).trans RV0.out; obtain ⟨sv, nr, nb⟩ := put7 (l := [fun _ => 0, fun _ => 0]) (n := 2) sb (by rw [← HU.out]; exact Nat.le_refl _) rb 0 C0 (by omega) rfl; have NR := hid nr; have NB := hid nb; clear nr nb sb rb hb)
  clear ld
  obtain ⟨V1, hV⟩ : ∃ V, X0.setCells u 0 (bl C0 32) = V := ⟨_, rfl⟩
  have RV1 : Hid (V1.heap[u]? = some (.cells (vs .u8 (32 * 2) (fl7 [C0, fun _ => 0])) 81)) := by rw [← hV]; exact NR.out
  have SV1 : Hid (Below (y + 2) V0 V1) := by rw [← hV]; exact NB.out
  rw [hV]
  clear hV NR NB sv
  have ld := HL1.out _ SV1.out
  go_upto_region 9 with (go_at_call 46; refine (HC1.out _ SV1.out).mono ?_; rintro e X1 ⟨rfl, hb⟩; have sb := SV1.out.trans (hb.mono (by have h1 := HU.out; have h2 := Z3.out; have h3 := SV1.out.size; omega)); have rb := (hb.block _ (Array.getElem?_eq_some_iff.1 RV1.out).1).trans RV1.out; obtain ⟨sv, nr, nb⟩ := put7 (l := [C0, fun _ => 0]) (n := 2) sb (by rw [← HU.out]; exact Nat.le_refl _) rb 1 C1 (by omega) rfl; have NR := hid nr; have NB := hid nb; clear nr nb sb rb hb)
  clear ld
  obtain ⟨V2, hV⟩ : ∃ V, X1.setCells u 32 (bl C1 32) = V := ⟨_, rfl⟩
  have RV2 : Hid (V2.heap[u]? = some (.cells (vs .u8 (32 * 2) (fl7 [C0, C1])) 81)) := by rw [← hV]; exact NR.out
  have SV2 : Hid (Below (y + 2) V0 V2) := by rw [← hV]; exact NB.out
  rw [hV]
  clear hV NR NB sv
  have HM := hid (HMU.out _ (by have := SV2.out; rw [HU.out] at this; exact this) RV2.out)
  go_wp2_with (go_at_call 33; refine HM.out.mono ?_; rintro e Y ⟨rfl, hb⟩; have sy := SV2.out.trans (hb.mono (by have h1 := HU.out; have h2 := Z3.out; have h3 := SV2.out.size; omega)); have rY := HRR.out _ sy; have s1 := sv24_run rY D; have RY := hid rY; have SY := hid sy; clear rY sy hb)
  refine ret24s _ _ (y + 1) _ 25 _ rfl rfl rfl rfl (setRow_at RY.out) ⟨rfl, ?_⟩
  have e0 := EY.out
  exact below_row (HB0w.out.trans (SY.out.mono (by omega))) (by omega) _

set_option maxHeartbeats 2000000 in
theorem rrootAttesterSlashing_bad0 (x : VAttesterSlashing) (w : World) (E : Int) (hE : E ≠ 0) (h0 : ∀ W, Below w.heap.size w W → Calls Tryz.prog 46 #[.agg (cel (sIndexed x.f0))] W fun e w' => e = .returned (.tuple #[.agg (vs .u8 32 (fun _ => 0)), .int .i64 E]) ∧ Below W.heap.size W w') :
    Calls Tryz.prog 15 #[.agg (cel (sAttesterSlashing x))] w fun e w' => e = .returned (.tuple #[.agg (vs .u8 32 fun _ => 0), .int .i64 E]) ∧ Below w.heap.size w w' := by
  have z := zero_root
  have zc : ∀ W : World, (zeroValue 81).run Tryz.prog W = .ok (.agg (vs .u8 64 (fl7 [fun _ => 0, fun _ => 0]))) W := (zero_of_info (n := 64) (by kernel_rfl)).1
  obtain ⟨y, ey⟩ : ∃ y, w.heap.size = y := ⟨_, rfl⟩
  obtain ⟨W1, hW1⟩ : ∃ W, w.alloc (.cells (cel (sAttesterSlashing x)) 48) = W := ⟨_, rfl⟩
  obtain ⟨W2, hW2⟩ : ∃ W, W1.alloc (.cells (vs .u8 32 fun _ => 0) 25) = W := ⟨_, rfl⟩
  obtain ⟨W0, hW0⟩ : ∃ W, W2.alloc (.cells (vs .u8 64 (fl7 [fun _ => 0, fun _ => 0])) 81) = W := ⟨_, rfl⟩
  have z1 : W1.heap.size = y + 1 := by rw [← hW1, ← ey]; simp
  have z2 : W2.heap.size = y + 2 := by rw [← hW2]; simp [z1]
  have z0 : y + 2 ≤ W0.heap.size := by rw [← hW0]; simp; omega
  have hB0 : Below w.heap.size w W0 := by rw [← hW0, ← hW2, ← hW1]; exact (((Below.refl _ _).alloc (Nat.le_refl _) _).alloc (by simp) _).alloc (by simp; omega) _
  have r1 : W0.heap[y]? = some (.cells (cel (sAttesterSlashing x)) 48) := by rw [← hW0]; refine (heap_old (by omega)).trans ?_; rw [← hW2]; refine (heap_old (by omega)).trans ?_; rw [← hW1]; exact heap_new ey.symm
  have r2 : W0.heap[y + 1]? = some (.cells (vs .u8 32 fun _ => 0) 25) := by rw [← hW0]; refine (heap_old (by omega)).trans ?_; rw [← hW2]; exact heap_new z1.symm
  have hry : ∀ X, Below (y + 1) W0 X → X.heap[y]? = some (.cells (cel (sAttesterSlashing x)) 48) := fun X h => (h.block _ (by omega)).trans r1
  have hrr : ∀ X, Below W0.heap.size W0 X → X.heap[y + 1]? = some (.cells (vs .u8 32 fun _ => 0) 25) := fun X h => (h.block _ (by omega)).trans r2
  have HL0 : Hid (∀ X, Below (y + 1) W0 X → (lvIndexed ⟨y, 0, none⟩).run Tryz.prog X = .ok (.agg (cel (sIndexed x.f0))) X) := fun X h => lvIndexed_mid (hry X h) 0 rfl rfl
  have HL1 : Hid (∀ X, Below (y + 1) W0 X → (lvIndexed ⟨y, 197, none⟩).run Tryz.prog X = .ok (.agg (cel (sIndexed x.f1))) X) := fun X h => lvIndexed_mid (hry X h) 197 rfl rfl
  have S0 := hid (Below.refl W0.heap.size W0)
  have HRR := hid hrr
  have HB0 := hid hB0
  have EY := hid ey
  have HY1 := hid (show y + 1 ≤ W0.heap.size by omega)
  have H0 : Hid (∀ X, Below (y + 2) W0 X → _) := fun X h => h0 X (hB0.trans (h.mono (by omega)))
  have r3 : W0.heap[y + 2]? = some (.cells (vs .u8 (32 * 2) (fl7 [fun _ => 0, fun _ => 0])) 81) := by rw [← hW0]; exact heap_new z2.symm
  have q0 : (E != 0) = true := by rw [bne_iff_ne]; exact hE
  obtain ⟨u, eu⟩ : ∃ u, y + 2 = u := ⟨_, rfl⟩
  have HU := hid eu
  have RV0 : Hid (W0.heap[u]? = some (.cells (vs .u8 (32 * 2) (fl7 [fun _ => 0, fun _ => 0])) 81)) := by rw [← eu]; exact r3
  have SV0 := hid (Below.refl (y + 2) W0)
  have HLX : Hid (∀ X, Below (y + 2) W0 X → X.heap[y + 1]? = some (.cells (vs .u8 32 fun _ => 0) 25)) := fun X h => (h.block _ (by omega)).trans r2
  clear hB0 r1 r2 r3 hry hrr h0  hE
  go_enter Tryz.func15, Tryz.ntmps15
  go_upto_region 3 with fail
  clear hW0 hW1 hW2 ey z0 z1 z2 z zc
  try rw [eu]
  clear eu
  have l0 := HL0.out _ (SV0.out.mono (by omega))
  go_upto_region 4 with (go_at_call 46; refine (H0.out _ SV0.out).mono ?_; rintro e X1 ⟨rfl, hb⟩; have sb := SV0.out.trans (hb.mono (by have h1 := HY1.out; have h3 := SV0.out.size; have h2 := (Array.getElem?_eq_some_iff.1 RV0.out).1; have := HU.out; omega)); have rb := (hb.block _ (Array.getElem?_eq_some_iff.1 RV0.out).1).trans RV0.out; obtain ⟨sv, nr, nb⟩ := put7 (l := [fun _ => 0, fun _ => 0]) (n := 2) sb (by rw [← HU.out]; exact Nat.le_refl _) rb 0 (fun _ => 0) (by omega) rfl; have NR := hid nr; have NB := hid nb; clear nr nb sb rb hb)
  obtain ⟨V1, hV⟩ : ∃ V, X1.setCells u 0 (bl (fun _ => 0) 32) = V := ⟨_, rfl⟩
  have RV1 : Hid (V1.heap[u]? = some (.cells (vs .u8 (32 * 2) (fl7 ([fun _ => 0, fun _ => 0].set 0 (fun _ => 0)))) 81)) := by rw [← hV]; exact NR.out
  have SV1 : Hid (Below (y + 2) W0 V1) := by rw [← hV]; exact NB.out
  rw [hV]
  clear hV NR NB sv l0
  have RR := hid (HLX.out _ SV1.out)
  have sr := sv24_run RR.out (fun _ => 0)
  have bb := bd27_0
  go_wp2
  refine ret24s _ _ (y + 1) _ 25 _ rfl rfl rfl rfl (setRow_at RR.out) ⟨rfl, ?_⟩
  have e0 := EY.out
  have e1 := HY1.out
  exact below_row (HB0.out.trans (SV1.out.mono (by omega))) (by omega) _

set_option maxHeartbeats 2000000 in
theorem rrootAttesterSlashing_bad1 (x : VAttesterSlashing) (w : World) (D0 : Nat → Int) (E : Int) (hE : E ≠ 0) (h0 : ∀ W, Below w.heap.size w W → Calls Tryz.prog 46 #[.agg (cel (sIndexed x.f0))] W fun e w' => e = .returned (.tuple #[.agg (vs .u8 32 D0), .int .i64 0]) ∧ Below W.heap.size W w') (h1 : ∀ W, Below w.heap.size w W → Calls Tryz.prog 46 #[.agg (cel (sIndexed x.f1))] W fun e w' => e = .returned (.tuple #[.agg (vs .u8 32 (fun _ => 0)), .int .i64 E]) ∧ Below W.heap.size W w') :
    Calls Tryz.prog 15 #[.agg (cel (sAttesterSlashing x))] w fun e w' => e = .returned (.tuple #[.agg (vs .u8 32 fun _ => 0), .int .i64 E]) ∧ Below w.heap.size w w' := by
  have z := zero_root
  have zc : ∀ W : World, (zeroValue 81).run Tryz.prog W = .ok (.agg (vs .u8 64 (fl7 [fun _ => 0, fun _ => 0]))) W := (zero_of_info (n := 64) (by kernel_rfl)).1
  obtain ⟨y, ey⟩ : ∃ y, w.heap.size = y := ⟨_, rfl⟩
  obtain ⟨W1, hW1⟩ : ∃ W, w.alloc (.cells (cel (sAttesterSlashing x)) 48) = W := ⟨_, rfl⟩
  obtain ⟨W2, hW2⟩ : ∃ W, W1.alloc (.cells (vs .u8 32 fun _ => 0) 25) = W := ⟨_, rfl⟩
  obtain ⟨W0, hW0⟩ : ∃ W, W2.alloc (.cells (vs .u8 64 (fl7 [fun _ => 0, fun _ => 0])) 81) = W := ⟨_, rfl⟩
  have z1 : W1.heap.size = y + 1 := by rw [← hW1, ← ey]; simp
  have z2 : W2.heap.size = y + 2 := by rw [← hW2]; simp [z1]
  have z0 : y + 2 ≤ W0.heap.size := by rw [← hW0]; simp; omega
  have hB0 : Below w.heap.size w W0 := by rw [← hW0, ← hW2, ← hW1]; exact (((Below.refl _ _).alloc (Nat.le_refl _) _).alloc (by simp) _).alloc (by simp; omega) _
  have r1 : W0.heap[y]? = some (.cells (cel (sAttesterSlashing x)) 48) := by rw [← hW0]; refine (heap_old (by omega)).trans ?_; rw [← hW2]; refine (heap_old (by omega)).trans ?_; rw [← hW1]; exact heap_new ey.symm
  have r2 : W0.heap[y + 1]? = some (.cells (vs .u8 32 fun _ => 0) 25) := by rw [← hW0]; refine (heap_old (by omega)).trans ?_; rw [← hW2]; exact heap_new z1.symm
  have hry : ∀ X, Below (y + 1) W0 X → X.heap[y]? = some (.cells (cel (sAttesterSlashing x)) 48) := fun X h => (h.block _ (by omega)).trans r1
  have hrr : ∀ X, Below W0.heap.size W0 X → X.heap[y + 1]? = some (.cells (vs .u8 32 fun _ => 0) 25) := fun X h => (h.block _ (by omega)).trans r2
  have HL0 : Hid (∀ X, Below (y + 1) W0 X → (lvIndexed ⟨y, 0, none⟩).run Tryz.prog X = .ok (.agg (cel (sIndexed x.f0))) X) := fun X h => lvIndexed_mid (hry X h) 0 rfl rfl
  have HL1 : Hid (∀ X, Below (y + 1) W0 X → (lvIndexed ⟨y, 197, none⟩).run Tryz.prog X = .ok (.agg (cel (sIndexed x.f1))) X) := fun X h => lvIndexed_mid (hry X h) 197 rfl rfl
  have S0 := hid (Below.refl W0.heap.size W0)
  have HRR := hid hrr
  have HB0 := hid hB0
  have EY := hid ey
  have HY1 := hid (show y + 1 ≤ W0.heap.size by omega)
  have H0 : Hid (∀ X, Below (y + 2) W0 X → _) := fun X h => h0 X (hB0.trans (h.mono (by omega)))
  have H1 : Hid (∀ X, Below (y + 2) W0 X → _) := fun X h => h1 X (hB0.trans (h.mono (by omega)))
  have r3 : W0.heap[y + 2]? = some (.cells (vs .u8 (32 * 2) (fl7 [fun _ => 0, fun _ => 0])) 81) := by rw [← hW0]; exact heap_new z2.symm
  have q0 : (E != 0) = true := by rw [bne_iff_ne]; exact hE
  obtain ⟨u, eu⟩ : ∃ u, y + 2 = u := ⟨_, rfl⟩
  have HU := hid eu
  have RV0 : Hid (W0.heap[u]? = some (.cells (vs .u8 (32 * 2) (fl7 [fun _ => 0, fun _ => 0])) 81)) := by rw [← eu]; exact r3
  have SV0 := hid (Below.refl (y + 2) W0)
  have HLX : Hid (∀ X, Below (y + 2) W0 X → X.heap[y + 1]? = some (.cells (vs .u8 32 fun _ => 0) 25)) := fun X h => (h.block _ (by omega)).trans r2
  clear hB0 r1 r2 r3 hry hrr h0 h1 hE
  go_enter Tryz.func15, Tryz.ntmps15
  go_upto_region 3 with fail
  clear hW0 hW1 hW2 ey z0 z1 z2 z zc
  try rw [eu]
  clear eu
  have l0 := HL0.out _ (SV0.out.mono (by omega))
  go_upto_region 6 with (go_at_call 46; refine (H0.out _ SV0.out).mono ?_; rintro e X1 ⟨rfl, hb⟩; have sb := SV0.out.trans (hb.mono (by have h1 := HY1.out; have h3 := SV0.out.size; have h2 := (Array.getElem?_eq_some_iff.1 RV0.out).1; have := HU.out; omega)); have rb := (hb.block _ (Array.getElem?_eq_some_iff.1 RV0.out).1).trans RV0.out; obtain ⟨sv, nr, nb⟩ := put7 (l := [fun _ => 0, fun _ => 0]) (n := 2) sb (by rw [← HU.out]; exact Nat.le_refl _) rb 0 D0 (by omega) rfl; have NR := hid nr; have NB := hid nb; clear nr nb sb rb hb)
  obtain ⟨V1, hV⟩ : ∃ V, X1.setCells u 0 (bl D0 32) = V := ⟨_, rfl⟩
  have RV1 : Hid (V1.heap[u]? = some (.cells (vs .u8 (32 * 2) (fl7 ([fun _ => 0, fun _ => 0].set 0 D0))) 81)) := by rw [← hV]; exact NR.out
  have SV1 : Hid (Below (y + 2) W0 V1) := by rw [← hV]; exact NB.out
  rw [hV]
  clear hV NR NB sv l0
  have l1 := HL1.out _ (SV1.out.mono (by omega))
  go_upto_region 7 with (go_at_call 46; refine (H1.out _ SV1.out).mono ?_; rintro e X2 ⟨rfl, hb⟩; have sb := SV1.out.trans (hb.mono (by have h1 := HY1.out; have h3 := SV1.out.size; have h2 := (Array.getElem?_eq_some_iff.1 RV1.out).1; have := HU.out; omega)); have rb := (hb.block _ (Array.getElem?_eq_some_iff.1 RV1.out).1).trans RV1.out; obtain ⟨sv, nr, nb⟩ := put7 (l := [D0, fun _ => 0]) (n := 2) sb (by rw [← HU.out]; exact Nat.le_refl _) rb 1 (fun _ => 0) (by omega) rfl; have NR := hid nr; have NB := hid nb; clear nr nb sb rb hb)
  obtain ⟨V2, hV⟩ : ∃ V, X2.setCells u 32 (bl (fun _ => 0) 32) = V := ⟨_, rfl⟩
  have RV2 : Hid (V2.heap[u]? = some (.cells (vs .u8 (32 * 2) (fl7 ([D0, fun _ => 0].set 1 (fun _ => 0)))) 81)) := by rw [← hV]; exact NR.out
  have SV2 : Hid (Below (y + 2) W0 V2) := by rw [← hV]; exact NB.out
  rw [hV]
  clear hV NR NB sv l1
  have RR := hid (HLX.out _ SV2.out)
  have sr := sv24_run RR.out (fun _ => 0)
  have bb := bd27_0
  go_wp2
  refine ret24s _ _ (y + 1) _ 25 _ rfl rfl rfl rfl (setRow_at RR.out) ⟨rfl, ?_⟩
  have e0 := EY.out
  have e1 := HY1.out
  exact below_row (HB0.out.trans (SV2.out.mono (by omega))) (by omega) _

end Go.Proofs.YtokbhcgooboocaaGreatDoor
