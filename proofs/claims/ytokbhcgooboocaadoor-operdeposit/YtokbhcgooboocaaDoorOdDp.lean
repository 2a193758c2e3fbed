/-
  Deposit: what the reference's Enc and Root answer.
-/
import Derived.Test.YtokbhcgooboocaaDoorOdBp
import Derived.Test.YtokbhcgooboocaaDoorOdCp
import Derived.Test.YtokbhcgooboocaaDoorTrDepositDatap
namespace Go.Proofs.YtokbhcgooboocaaDoor
open Go.RowKit
set_option linter.unusedVariables false
set_option linter.unusedSimpArgs false
set_option maxRecDepth 20000

theorem proof_bys {w : World} {y : Nat} {t : TypeId} {x : VDeposit} (h : w.heap[y]? = some (.cells (cel (sDeposit x)) t)) (k : Nat) (hk : k < 7) : Bys w (some ⟨y, k * 32, none⟩) 32 32 (fun q => x.f0.f0 (32 * k + q)) :=
  .inr (.inr ⟨y, k * 32, rfl, Nat.le_refl _, by omega, (Array.getElem?_eq_some_iff.1 h).1, fun j hj => by
    rw [row_cell h, show k * 32 + j = sof (sDeposit x) 0 + (32 * k + j) by show _ = 0 + (32 * k + j); omega]
    exact cel_at (sDeposit x) 0 (32 * k + j) (Seg.by 224 x.f0.f0) rfl (by show 32 * k + j < 224; omega)⟩)

attribute [local go_sem ↓] sv24_eq lv24_eq ix22_eq slr_eq bd27_eq bs22_eq bsP_eq bsI_eq lvDepositData_eq

set_option maxRecDepth 20000 in
set_option maxHeartbeats 2000000 in
theorem rencDeposit_any (x : VDeposit) (w : World) (hx : OkDeposit x) :
    Calls Tryd.prog 21 #[.agg (cel (sDeposit x))] w fun e w' => ∃ v, e = .returned (.tuple #[v, .int .i64 0]) ∧ w'.ownsRow w.heap.size 5 1 v 408 (bl (ct7 (eDeposit x)) 408) ∧ Below w.heap.size w w' := by
  have HX := hid hx
  obtain ⟨W0, hW0⟩ : ∃ W, w.alloc (.cells (cel (sDeposit x)) 61) = W := ⟨_, rfl⟩
  have hB0 : Below w.heap.size w W0 := by rw [← hW0]; exact (Below.refl _ _).alloc (Nat.le_refl _) _
  have r0 : W0.heap[w.heap.size]? = some (.cells (cel (sDeposit x)) 61) := by rw [← hW0]; exact heap_new rfl
  have z0 : w.heap.size < W0.heap.size := by rw [← hW0]; simp
  obtain ⟨y, ey⟩ : ∃ y, w.heap.size = y := ⟨_, rfl⟩
  have hry : ∀ X, Below W0.heap.size W0 X → X.heap[y]? = some (.cells (cel (sDeposit x)) 61) := fun X h => by rw [← ey]; exact (h.block _ z0).trans r0
  have HK : Hid (∀ X, Below W0.heap.size W0 X → ∀ k, k < 7 → Bys X (some ⟨y, k * 32, none⟩) 32 32 (fun q => x.f0.f0 (32 * k + q))) := fun X h k hk => proof_bys (hry X h) k hk
  have HL1 : Hid (∀ X, Below W0.heap.size W0 X → (lvDepositData ⟨y, 224, none⟩).run Tryd.prog X = .ok (.agg (cel (sDepositData x.f1))) X) := fun X h => lvDepositData_mid (hry X h) 224 rfl rfl
  have S0 := hid (Below.refl W0.heap.size W0)
  have HB0w := hid hB0
  have EY := hid ey
  clear hB0 r0 hry hx
  go_enter Tryd.func21, Tryd.ntmps21
  go_upto_region 6 with fail
  clear hW0 ey z0
  obtain ⟨f, ef⟩ : ∃ f, x.f0.f0 = f := ⟨_, rfl⟩
  rw [ef] at HK
  have EF := hid ef
  clear ef
  go_loopw [5, 7] (fun v i wr => ∃ k : Nat, k ≤ 7 ∧ i = .int .i64 k ∧ wr.ownsRow W0.heap.size 5 1 v (32 * k) (bl f (32 * k)) ∧ Below W0.heap.size W0 wr) (fun _ i _ => 7 - (intOf i).toNat)
  case atStart => exact ⟨0, by omega, rfl, World.ownsRow_nil _ _ _ _, Below.refl _ _⟩
  case round =>
    obtain ⟨k, hk, rfl, hown, hb⟩ := hrel
    by_cases hlt : k < 7
    · have bq : decide (k < 7) = true := by simp; omega
      have k1 : (k : Int) < 7 := by omega
      have k2 : (0 : Int) ≤ (k : Int) := by omega
      have hz := hb.size
      obtain ⟨c, ec⟩ : ∃ c : Nat → Int, (fun q => f (32 * k + q)) = c := ⟨_, rfl⟩
      have HKK : Hid (∀ X, Below W0.heap.size W0 X → Bys X (some ⟨y, k * 32, none⟩) 32 32 c) := fun X h => by rw [← ec]; exact HK.out X h k hlt
      have HO := hid hown
      have HB := hid hb
      have EC := hid ec
      clear hown hb ec
      go_wp2_with (first
        | (at_builtin; refine wpList_append_bys w8 rfl _ _ rfl W0.heap.size _ (32 * k) (bl f (32 * k)) rfl (ownsRow_below HO.out HB8.out) a8 32 c8 c rfl HR8.out (by omega) (by have := HB8.out.size; omega) ?_; intro v9 w9 ho9 hg9)
        | (at_builtin; refine wpList_append_bys _ rfl _ _ rfl wr.heap.size _ 0 [] rfl (World.ownsRow_made _ #[] 0 (Nat.le_refl _) (Nat.zero_le _) rfl) _ 32 32 c rfl (HKK.out _ (HB.out.alloc hz _)) (by omega) (by simp) ?_; intro v8 w8 ho8 hg8; rw [Nat.zero_add, List.nil_append] at ho8; have HB8 := hid (below_grown ((Below.refl wr.heap.size wr).alloc (Nat.le_refl _) (.cells #[] 5)) (World.ownsRow_made _ #[] 0 (Nat.le_refl _) (Nat.zero_le _) rfl) (by simp) hg8); obtain ⟨a8, c8, rfl, hr8⟩ := own_at ho8; have HR8 := hid hr8; clear ho8 hg8 hr8))
      go_roundw
      case rel =>
        refine ⟨k + 1, by omega, by go_num, ?_, below_grown (HB.out.trans (HB8.out.mono hz)) (ownsRow_below HO.out HB8.out) (by have := HB8.out.size; omega) hg9⟩
        rw [← EC.out, bl_join f (32 * k) 32] at ho9
        exact ho9
      case measure => simp [intOf]; omega
    · obtain rfl : k = 7 := by omega
      have bq : decide (7 < 7) = false := by decide
      obtain ⟨a1, c1, rfl, hr1⟩ := own_at (show wr.ownsRow W0.heap.size 5 1 _ 224 (bl f 224) from hown)
      replace hr1 : Bys wr a1 224 c1 (ct7 (eProof x.f0)) := by
        rw [← EF.out] at hr1
        rcases hr1 with ⟨_, h, _⟩ | ⟨_, _, h⟩ | ⟨b, off, h1, h2, h3, h4, h5⟩
        · omega
        · omega
        · exact .inr (.inr ⟨b, off, h1, h2, h3, h4, fun j hj => by rw [h5 j hj]; exact congrArg (fun z => some (Value.int .u8 z)) (if_pos hj).symm⟩)
      have hb1 := hb
      clear hown hb bq hk hlt
      have S1 := hid (S0.out.trans (hb1.mono S0.out.size))
      have R0 := hid (show ∀ X, Below wr.heap.size wr X → Bys X a1 224 c1 (ct7 (eProof x.f0)) from fun X h => hr1.below h)
      clear hb1 hr1
      have ld1 := HL1.out _ S1.out
      go_upto_region 14 with (go_at_call 59; refine (rencDepositData_any x.f1 _ HX.out.2).mono ?_; rintro e X2 ⟨v2, rfl, ho2, hb2⟩)
      obtain ⟨a2, c2, rfl, hr2⟩ := own_at ho2
      clear ho2 ld1
      have S2 := hid (S1.out.trans (hb2.mono S1.out.size))
      have K1 := hid (show Below wr.heap.size wr X2 from hb2)
      have R1 := hid (show ∀ X, Below X2.heap.size X2 X → Bys X a2 184 c2 (ct7 (eDepositData x.f1)) from fun X h => hr2.below h)
      clear hb2 hr2
      obtain ⟨ps, eps⟩ : ∃ ps : List Pt, ([(a1, 224, c1, ct7 (eProof x.f0)), (a2, 184, c2, ct7 (eDepositData x.f1))] : List Pt) = ps := ⟨_, rfl⟩
      obtain ⟨Y1, hY1⟩ : ∃ Y, X2.alloc (.cells (ps.map ptv).toArray 34) = Y := ⟨_, rfl⟩
      obtain ⟨Y2, hY2⟩ : ∃ Y, Y1.alloc (.cells (vs .i64 2 zDeposit) 3) = Y := ⟨_, rfl⟩
      have hy1 : Below X2.heap.size X2 Y1 := by rw [← hY1]; exact (Below.refl _ _).alloc (Nat.le_refl _) _
      have hy2 : Below X2.heap.size X2 Y2 := by rw [← hY2]; exact hy1.alloc hy1.size _
      have g1 : Y2.heap[X2.heap.size]? = some (.cells (ps.map ptv).toArray 34) := by
        rw [← hY2, ← hY1]
        exact (heap_old (by simp)).trans (heap_new rfl)
      have g2 : Y2.heap[Y1.heap.size]? = some (.cells (vs .i64 2 zDeposit) 3) := by rw [← hY2]; exact heap_new rfl
      have bs1 := bsP_2 X2 (a1, 224, c1, ct7 (eProof x.f0)) (a2, 184, c2, ct7 (eDepositData x.f1))
      have bs2 := bsI_Deposit Y1
      have hla := rlay7 ps zDeposit 2 X2.heap.size Y1.heap.size Y2 (by rw [← eps]; rfl) g1 g2 (fun r hr => by
        rw [← eps]
        rcases (by omega : r = 0 ∨ r = 1) with rfl | rfl
        · exact R0.out _ (K1.out.trans (hy2.mono K1.out.size))
        · exact R1.out _ hy2
        ) (fun r hr => by
        rw [← eps]
        rcases (by omega : r = 0 ∨ r = 1) with rfl | rfl
        all_goals exact ⟨rfl, Nat.le_of_ble_eq_true rfl, Nat.le_of_ble_eq_true rfl⟩) (by omega) (by omega) (by rw [← eps]; exact Nat.le_of_ble_eq_true rfl)
      have e1 : ln7 (ps.map ptb) = 408 := by rw [← eps]; rfl
      have e2 : ct7 (ps.map ptb) = ct7 (eDeposit x) := by rw [← eps]; rfl
      rw [e1, e2] at hla
      rw [eps, hY1] at bs1
      rw [hY2] at bs2
      obtain ⟨u1, eu1⟩ : ∃ u, X2.heap.size = u := ⟨_, rfl⟩
      obtain ⟨u2, eu2⟩ : ∃ u, Y1.heap.size = u := ⟨_, rfl⟩
      rw [eu1] at bs1 hla
      rw [eu2] at bs2 hla
      replace bs1 : (bsP 2 #[(0, Value.slice a1 224 c1), (1, Value.slice a2 184 c2)]).run Tryd.prog X2 = .ok (.slice (some ⟨u1, 0, none⟩) 2 2) Y1 := bs1
      have HLA := hid hla
      have HY2 := hid hy2
      clear hla hy1 hy2 g1 g2 e1 e2 eps hY1 hY2 eu1 eu2
      go_wp2_with (go_at_call 35; refine HLA.out.mono ?_; rintro e Y ⟨v, rfl, ho, hbY⟩)
      go_ret2
      have e0 := EY.out
      have e1 := HB0w.out.size
      have e2 := S2.out.size
      have e3 := HY2.out.size
      exact ⟨v, rfl, (ho.mono (by omega) : _), HB0w.out.trans ((S2.out.mono (by omega)).trans ((HY2.out.mono (by omega)).trans (hbY.mono (by omega))))⟩

set_option maxRecDepth 20000 in
set_option maxHeartbeats 2000000 in
theorem rrootDeposit_any (x : VDeposit) (w : World) (hx : OkDeposit x) (hC : Rc w) :
    Calls Tryd.prog 22 #[.agg (cel (sDeposit x))] w fun e w' => e = .returned (.tuple #[.agg (vs .u8 32 (hDeposit x)), .int .i64 0]) ∧ Below w.heap.size w w' := by
  have z := zero_root
  have zc : ∀ W : World, (zeroValue 97).run Tryd.prog W = .ok (.agg (vs .u8 64 (fl7 [fun _ => 0, fun _ => 0]))) W := (zero_of_info (n := 64) (by kernel_rfl)).1
  obtain ⟨y, ey⟩ : ∃ y, w.heap.size = y := ⟨_, rfl⟩
  obtain ⟨W1, hW1⟩ : ∃ W, w.alloc (.cells (cel (sDeposit x)) 61) = W := ⟨_, rfl⟩
  obtain ⟨W2, hW2⟩ : ∃ W, W1.alloc (.cells (vs .u8 32 fun _ => 0) 25) = W := ⟨_, rfl⟩
  obtain ⟨V0, hV0⟩ : ∃ W, W2.alloc (.cells (vs .u8 64 (fl7 [fun _ => 0, fun _ => 0])) 97) = W := ⟨_, rfl⟩
  have z1 : W1.heap.size = y + 1 := by rw [← hW1, ← ey]; simp
  have z2 : W2.heap.size = y + 2 := by rw [← hW2]; simp [z1]
  have z3 : V0.heap.size = y + 3 := by rw [← hV0]; simp [z2]
  have hB0 : Below w.heap.size w V0 := by rw [← hV0, ← hW2, ← hW1]; exact (((Below.refl _ _).alloc (Nat.le_refl _) _).alloc (by simp) _).alloc (by simp; omega) _
  have r1 : V0.heap[y]? = some (.cells (cel (sDeposit x)) 61) := by rw [← hV0]; refine (heap_old (by omega)).trans ?_; rw [← hW2]; refine (heap_old (by omega)).trans ?_; rw [← hW1]; exact heap_new ey.symm
  have r2 : V0.heap[y + 1]? = some (.cells (vs .u8 32 fun _ => 0) 25) := by rw [← hV0]; refine (heap_old (by omega)).trans ?_; rw [← hW2]; exact heap_new z1.symm
  have r3 : V0.heap[y + 2]? = some (.cells (vs .u8 (32 * 2) (fl7 [fun _ => 0, fun _ => 0])) 97) := by rw [← hV0]; exact heap_new z2.symm
  have hry : ∀ X, Below (y + 2) V0 X → X.heap[y]? = some (.cells (cel (sDeposit x)) 61) := fun X h => (h.block _ (by omega)).trans r1
  have hrr : ∀ X, Below (y + 2) V0 X → X.heap[y + 1]? = some (.cells (vs .u8 32 fun _ => 0) 25) := fun X h => (h.block _ (by omega)).trans r2
  have hRc : ∀ X, Below (y + 2) V0 X → Rc X := fun X h => hC.below (hB0.trans (h.mono (by omega)))
  have hc0 : ∀ X a c, Below (y + 2) V0 X → Rts X a 7 c x.f0.f0 → Calls Tryd.prog 36 #[.slice a 7 c, .int .i64 7] X fun e w' => e = .returned (.agg (vs .u8 32 (hProof x.f0))) ∧ Below X.heap.size X w' := fun X a c h hr => must7 a 7 c x.f0.f0 7 X (hRc X h) hr (rts_cap hr (by omega)) hx.1 (by decide) (by decide) (by decide)
  have HLK : Hid (∀ X, Below (y + 2) V0 X → ∀ k, k < 7 → (lv24 ⟨y, k * 32, none⟩).run Tryd.prog X = .ok (.agg (vs .u8 32 (fun q => x.f0.f0 (32 * k + q)))) X) := fun X h k hk => lv24_mid (fun j hj => by
    obtain ⟨b', o', e', _, _, h'⟩ := bys_at (proof_bys (hry X h) k hk) (by omega)
    cases e'
    exact h' j hj)
  have hd0 : ∀ j, j < 32 → 0 ≤ (hProof x.f0) j ∧ (hProof x.f0) j < 256 := fun j hj => hProof_bd hx.1 j hj
  have HL1 : Hid (∀ X, Below (y + 2) V0 X → (lvDepositData ⟨y, 224, none⟩).run Tryd.prog X = .ok (.agg (cel (sDepositData x.f1))) X) := fun X h => lvDepositData_mid (hry X h) 224 rfl rfl
  have hc1 : ∀ X, Below (y + 2) V0 X → Calls Tryd.prog 60 #[.agg (cel (sDepositData x.f1))] X fun e w' => e = .returned (.tuple #[.agg (vs .u8 32 (hDepositData x.f1)), .int .i64 0]) ∧ Below X.heap.size X w' := fun X h => rrootDepositData_any x.f1 X hx.2 (hRc X h)
  have hd1 : ∀ j, j < 32 → 0 ≤ (hDepositData x.f1) j ∧ (hDepositData x.f1) j < 256 := fun j hj => hDepositData_bd hx.2 j hj
  have eh : ∀ j, j < 32 → treeV (fl7 [hProof x.f0, hDepositData x.f1]) 2 (2 : Nat) j = hDeposit x j := fun j hj => treeV_congr (fun q hq => by
    unfold fl7
    have hq5 := Nat.mod_lt q (show 0 < 32 by omega)
    rcases (by omega : q / 32 = 0 ∨ q / 32 = 1) with e | e
    · first | (rw [e]; done) | (rw [e]; rfl)
    · first | (rw [e]; done) | (rw [e]; rfl)
    ) _ j hj
  obtain ⟨C0, eC0⟩ : ∃ C, hProof x.f0 = C := ⟨_, rfl⟩
  rw [eC0] at hd0 hc0
  simp only [eC0] at eh
  have HC0 := hid hc0
  obtain ⟨C1, eC1⟩ : ∃ C, hDepositData x.f1 = C := ⟨_, rfl⟩
  rw [eC1] at hd1 hc1
  simp only [eC1] at eh
  have HC1 := hid hc1
  have hmu : ∀ X, Below (y + 2) V0 X → X.heap[y + 2]? = some (.cells (vs .u8 (32 * 2) (fl7 [C0, C1])) 97) → Calls Tryd.prog 36 #[.slice (some ⟨y + 2, 0, none⟩) 2 2, .int .i64 2] X fun e w' => e = .returned (.agg (vs .u8 32 (hDeposit x))) ∧ Below X.heap.size X w' := fun X h h2 => by
    have := must7 (some ⟨y + 2, 0, none⟩) 2 2 (fl7 [C0, C1]) (2 : Nat) X (hRc X h) (rts_row h2) (by omega) (fl7_bd (fun c hc => by
      simp only [List.mem_cons, List.not_mem_nil, or_false] at hc
      rcases hc with rfl | rfl
      · exact hd0
      · exact hd1
      ) _) (by decide) (by decide) (by decide)
    rw [vs_congr (fun j hj => eh j hj)] at this
    exact this
  obtain ⟨D, eD⟩ : ∃ D, hDeposit x = D := ⟨_, rfl⟩
  rw [eD] at hmu ⊢
  obtain ⟨u, eu⟩ : ∃ u, y + 2 = u := ⟨_, rfl⟩
  rw [eu] at hmu
  have HU := hid eu
  have HMU := hid hmu
  have HRR := hid hrr
  have HB0w := hid hB0
  have EY := hid ey
  have Z3 := hid z3
  have HX := hid hx
  have RV0 := hid r3
  have SV0 := hid (Below.refl (y + 2) V0)
  rw [eu] at RV0
  clear hmu hrr hB0 z3 r1 r2 r3 hry hRc hx hC eh eD hd0 eC0 hc0 hd1 eC1 hc1
  go_enter Tryd.func22, Tryd.ntmps22
  go_upto_region 5 with fail
  clear hW1 hW2 hV0 z1 z2 ey zc
  try rw [eu]
  clear eu
  obtain ⟨f, ef⟩ : ∃ f, x.f0.f0 = f := ⟨_, rfl⟩
  rw [ef] at HLK HC0
  have EF := hid ef
  clear ef
  go_loopw [6, 7] (fun v i wr => ∃ k : Nat, k ≤ 7 ∧ i = .int .i64 k ∧ wr.ownsRow V0.heap.size 25 32 v k (bl f (32 * k)) ∧ Below V0.heap.size V0 wr) (fun _ i _ => 7 - (intOf i).toNat)
  case atStart => exact ⟨0, by omega, rfl, World.ownsRow_nil _ _ _ _, Below.refl _ _⟩
  case round =>
    obtain ⟨k, hk, rfl, hown, hb⟩ := hrel
    by_cases hlt : k < 7
    · have bq : decide (k < 7) = true := by simp; omega
      have k1 : (k : Int) < 7 := by omega
      have k2 : (0 : Int) ≤ (k : Int) := by omega
      have hz := hb.size
      have z3 := Z3.out
      obtain ⟨R, eR⟩ : ∃ R : Nat → Int, (fun q => f (32 * k + q)) = R := ⟨_, rfl⟩
      obtain ⟨U, hU⟩ : ∃ U, wr.alloc (.cells (vs .u8 32 fun _ => 0) 25) = U := ⟨_, rfl⟩
      obtain ⟨Y, hY⟩ : ∃ Y, wr.alloc (.cells (vs .u8 32 R) 25) = Y := ⟨_, rfl⟩
      have hbU : Below V0.heap.size V0 U := by rw [← hU]; exact hb.alloc hz _
      have bY : Below V0.heap.size V0 Y := by rw [← hY]; exact hb.alloc hz _
      have gY : Y.heap[wr.heap.size]? = some (.cells (vs .u8 32 R) 25) := by rw [← hY]; exact heap_new rfl
      have oY : Y.ownsRow V0.heap.size 25 32 u6 k (bl f (32 * k)) := by rw [← hY]; exact hown.alloc _
      have ldk := HLK.out U (hbU.mono (by omega)) k hlt
      rw [eR] at ldk
      have sv := sv24_newv wr (fun _ => 0) R
      rw [hU, hY] at sv
      obtain ⟨b, eb⟩ : ∃ b, wr.heap.size = b := ⟨_, rfl⟩
      rw [eb] at gY sv
      have ly := lv24_run gY
      have bs := bs22_1 Y R
      have OY := hid oY
      have BY := hid bY
      have ER := hid eR
      have hzY := bY.size
      clear hown hb hbU gY oY eR bY z3
      go_wp2_with (at_builtin; go_loud (refine wpList_append_rts _ rfl _ _ rfl V0.heap.size _ k f rfl (OY.out.alloc _) _ 1 1 R rfl (rts_row (n := 1) (heap_new rfl)) (by omega) (by simp; omega) f (fun _ _ => rfl) (fun q hq => by rw [← ER.out]) ?_; intro v9 w9 ho9 hg9))
      go_roundw
      case rel => exact ⟨k + 1, by omega, by go_num, ho9, below_grownS (BY.out.alloc hzY _) (OY.out.alloc _) (by simp; omega) hg9⟩
      case measure => simp [intOf]; omega
    · obtain rfl : k = 7 := by omega
      have bq : decide (7 < 7) = false := by decide
      obtain ⟨a1, c1, rfl, hrow⟩ := RowR.ofOwns hown
      have SVw := hid (hb.mono (show y + 2 ≤ V0.heap.size by have := Z3.out; omega))
      have RVw := hid ((hb.block u (Array.getElem?_eq_some_iff.1 RV0.out).1).trans RV0.out)
      have CY := hid (HC0.out _ _ _ SVw.out hrow.rts)
      clear hown hb bq hk hlt hrow
      go_upto_region 11 with (go_at_call 36; refine CY.out.mono ?_; rintro e X0 ⟨rfl, hb⟩; have sb := SVw.out.trans (hb.mono (by have h1 := HU.out; have h2 := Z3.out; have h3 := SVw.out.size; omega)); have rb := (hb.block _ (Array.getElem?_eq_some_iff.1 RVw.out).1).trans RVw.out; obtain ⟨sv, nr, nb⟩ := put7 (l := [fun _ => 0, fun _ => 0]) (n := 2) sb (by rw [← HU.out]; exact Nat.le_refl _) rb 0 C0 (by omega) rfl; have NR := hid nr; have NB := hid nb; clear nr nb sb rb hb)
      clear CY
      obtain ⟨V1, hV⟩ : ∃ V, X0.setCells u 0 (bl C0 32) = V := ⟨_, rfl⟩
      have RV1 : Hid (V1.heap[u]? = some (.cells (vs .u8 (32 * 2) (fl7 [C0, fun _ => 0])) 97)) := by rw [← hV]; exact NR.out
      have SV1 : Hid (Below (y + 2) V0 V1) := by rw [← hV]; exact NB.out
      rw [hV]
      clear hV NR NB sv
      have ld := HL1.out _ SV1.out
      go_upto_region 14 with (go_at_call 60; refine (HC1.out _ SV1.out).mono ?_; rintro e X1 ⟨rfl, hb⟩; have sb := SV1.out.trans (hb.mono (by have h1 := HU.out; have h2 := Z3.out; have h3 := SV1.out.size; omega)); have rb := (hb.block _ (Array.getElem?_eq_some_iff.1 RV1.out).1).trans RV1.out; obtain ⟨sv, nr, nb⟩ := put7 (l := [C0, fun _ => 0]) (n := 2) sb (by rw [← HU.out]; exact Nat.le_refl _) rb 1 C1 (by omega) rfl; have NR := hid nr; have NB := hid nb; clear nr nb sb rb hb)
      clear ld
      obtain ⟨V2, hV⟩ : ∃ V, X1.setCells u 32 (bl C1 32) = V := ⟨_, rfl⟩
      have RV2 : Hid (V2.heap[u]? = some (.cells (vs .u8 (32 * 2) (fl7 [C0, C1])) 97)) := by rw [← hV]; exact NR.out
      have SV2 : Hid (Below (y + 2) V0 V2) := by rw [← hV]; exact NB.out
      rw [hV]
      clear hV NR NB sv
      have HM := hid (HMU.out _ (by have := SV2.out; rw [HU.out] at this; exact this) RV2.out)
      go_wp2_with (go_at_call 36; refine HM.out.mono ?_; rintro e Y ⟨rfl, hb⟩; have sy := SV2.out.trans (hb.mono (by have h1 := HU.out; have h2 := Z3.out; have h3 := SV2.out.size; omega)); have rY := HRR.out _ sy; have s1 := sv24_run rY D; have RY := hid rY; have SY := hid sy; clear rY sy hb)
      refine ret24s _ _ (y + 1) _ 25 _ rfl rfl rfl rfl (setRow_at RY.out) ⟨rfl, ?_⟩
      have e0 := EY.out
      exact below_row (HB0w.out.trans (SY.out.mono (by omega))) (by omega) _

end Go.Proofs.YtokbhcgooboocaaDoor
