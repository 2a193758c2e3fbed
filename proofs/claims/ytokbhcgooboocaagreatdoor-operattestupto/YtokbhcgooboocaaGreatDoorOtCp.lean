/-
  Attest: what the reference's Enc answers.
-/
import Derived.Test.YtokbhcgooboocaaGreatDoorOtAp
import Derived.Test.YtokbhcgooboocaaGreatDoorOiBp
import Derived.Test.YtokbhcgooboocaaGreatDoorOtRp
import Derived.Test.YtokbhcgooboocaaGreatDoorOiCp
namespace Go.Proofs.YtokbhcgooboocaaGreatDoor
open Go.RowKit
set_option linter.unusedVariables false
set_option linter.unusedSimpArgs false
set_option maxRecDepth 20000

theorem rblist8 (f : Nat → Bool) (a : Option Addr) (n c : Nat) (w : World) (h : Z.Bls w a n c f) (hn : n ≤ 64) :
    Calls Tryz.prog 29 #[.slice a n c] w fun e w' => ∃ a1 c1, e = .returned (.slice a1 (n / 8 + 1) c1) ∧ Bys w' a1 (n / 8 + 1) c1 (lB f n) ∧ Below w.heap.size w w' := (Z.rlist_any f a n c w h (by omega)).mono (by
  rintro e w' ⟨g, rfl, _, hr, hb⟩
  exact ⟨_, _, rfl, bys_new hr (by omega), hb⟩)

attribute [local go_sem ↓] bsP_eq bsI_eq lvData_eq

set_option maxRecDepth 20000 in
set_option maxHeartbeats 2000000 in
theorem rencAttest_long (x : VAttest) (w : World) (hn : 64 < x.n) :
    Calls Tryz.prog 8 #[.agg (cel (sAttest x))] w fun e w' => e = .returned (.tuple #[.slice none 0 0, .int .i64 6]) ∧ Below w.heap.size w w' := by
  obtain ⟨W0, hW0⟩ : ∃ W, w.alloc (.cells (cel (sAttest x)) 33) = W := ⟨_, rfl⟩
  have hB0 : Below w.heap.size w W0 := by rw [← hW0]; exact (Below.refl _ _).alloc (Nat.le_refl _) _
  have r0 : W0.heap[w.heap.size]? = some (.cells (cel (sAttest x)) 33) := by rw [← hW0]; exact heap_new rfl
  have z0 : w.heap.size < W0.heap.size := by rw [← hW0]; simp
  obtain ⟨y, ey⟩ : ∃ y, w.heap.size = y := ⟨_, rfl⟩
  have hry : ∀ X, Below W0.heap.size W0 X → X.heap[y]? = some (.cells (cel (sAttest x)) 33) := fun X h => by rw [← ey]; exact (h.block _ z0).trans r0
  have HL0 : Hid (∀ X, Below W0.heap.size W0 X → X.cell? ⟨y, 0, none⟩ = some (.slice x.a x.n x.c)) := fun X h => seg_sl (hry X h) 0 x.a x.n x.c rfl 0 rfl
  have l0 := HL0.out _ (Below.refl _ _)
  have HB0w := hid hB0
  have n1 : (64 : Int) < (x.n : Int) := by omega
  obtain ⟨N, eN⟩ : ∃ N, x.n = N := ⟨_, rfl⟩
  rw [eN] at l0 n1
  clear hB0 r0 hry hn eN HL0
  go_enter Tryz.func8, Tryz.ntmps8
  go_upto_region 1 with fail
  clear hW0 ey z0
  go_wp2
  go_ret2
  exact ⟨rfl, HB0w.out⟩

set_option maxRecDepth 20000 in
set_option maxHeartbeats 2000000 in
theorem rencAttest_ok (x : VAttest) (w : World) (hx : OkAttest x) (hn : x.n ≤ 64) (hw : Z.Bls w x.a x.n x.c x.zs) :
    Calls Tryz.prog 8 #[.agg (cel (sAttest x))] w fun e w' => ∃ v, e = .returned (.tuple #[v, .int .i64 0]) ∧ w'.ownsRow w.heap.size 5 1 v (228 + (x.n / 8 + 1)) (bl (ct7 (eAttest x)) (228 + (x.n / 8 + 1))) ∧ Below w.heap.size w w' := by
  have HX := hid hx
  obtain ⟨W0, hW0⟩ : ∃ W, w.alloc (.cells (cel (sAttest x)) 33) = W := ⟨_, rfl⟩
  have hB0 : Below w.heap.size w W0 := by rw [← hW0]; exact (Below.refl _ _).alloc (Nat.le_refl _) _
  have r0 : W0.heap[w.heap.size]? = some (.cells (cel (sAttest x)) 33) := by rw [← hW0]; exact heap_new rfl
  have z0 : w.heap.size < W0.heap.size := by rw [← hW0]; simp
  obtain ⟨y, ey⟩ : ∃ y, w.heap.size = y := ⟨_, rfl⟩
  have hry : ∀ X, Below W0.heap.size W0 X → X.heap[y]? = some (.cells (cel (sAttest x)) 33) := fun X h => by rw [← ey]; exact (h.block _ z0).trans r0
  have HL0 : Hid (∀ X, Below W0.heap.size W0 X → X.cell? ⟨y, 0, none⟩ = some (.slice x.a x.n x.c)) := fun X h => seg_sl (hry X h) 0 x.a x.n x.c rfl 0 rfl
  have HL1 : Hid (∀ X, Below W0.heap.size W0 X → (lvData ⟨y, 1, none⟩).run Tryz.prog X = .ok (.agg (cel (sData x.f1))) X) := fun X h => lvData_mid (hry X h) 1 rfl rfl
  have HB2 : Hid (∀ X, Below W0.heap.size W0 X → Bys X (some ⟨y, 101, none⟩) 96 96 x.f2) := fun X h => seg_bys (hry X h) 8 96 x.f2 rfl 101 rfl (by omega)
  have HNM : Hid (∀ X, Below W0.heap.size W0 X → Calls Tryz.prog 29 #[.slice x.a x.n x.c] X fun e w' => ∃ a1 c1, e = .returned (.slice a1 (x.n / 8 + 1) c1) ∧ Bys w' a1 (x.n / 8 + 1) c1 (lB x.zs x.n) ∧ Below X.heap.size X w') := fun X h => rblist8 x.zs x.a x.n x.c X (hw.below (hB0.trans (h.mono hB0.size))) hn
  have S0 := hid (Below.refl W0.heap.size W0)
  have HB0w := hid hB0
  have EY := hid ey
  have l0 := HL0.out _ (Below.refl _ _)
  obtain ⟨n, en⟩ : ∃ n, x.n = n := ⟨_, rfl⟩
  obtain ⟨zs, ez⟩ : ∃ zs, x.zs = zs := ⟨_, rfl⟩
  have n1 : ¬ (64 : Int) < (n : Int) := by omega
  have HN : Hid (n ≤ 64) := by rw [← en]; exact hn
  obtain ⟨V, eV⟩ : ∃ V, ct7 (eAttest x) = V := ⟨_, rfl⟩
  have hFL : ∀ (P : World) gp gs a1 c1 a2 c2 a3 c3, P.heap[gp]? = some (.cells (([(a1, (n / 8 + 1), c1, lB zs n), (a2, 128, c2, ct7 (eData x.f1)), (a3, 96, c3, x.f2)] : List Pt).map ptv).toArray 34) → P.heap[gs]? = some (.cells (vs .i64 3 zI) 3) → Bys P a1 ((n / 8 + 1)) c1 (lB zs n) → Bys P a2 128 c2 (ct7 (eData x.f1)) → Bys P a3 96 c3 x.f2 → Calls Tryz.prog 31 #[.slice (some ⟨gp, 0, none⟩) 3 3, .slice (some ⟨gs, 0, none⟩) 3 3] P fun e w' => ∃ v, e = .returned (.tuple #[v, .int .i64 0]) ∧ w'.ownsRow P.heap.size 5 1 v (228 + (n / 8 + 1)) (bl V (228 + (n / 8 + 1))) ∧ Below P.heap.size P w' := fun P gp gs a1 c1 a2 c2 a3 c3 h1 h2 h3 h4 h5 => by
    rw [← eV]
    unfold eAttest
    rw [en, ez]
    exact rolayI (a1, (n / 8 + 1), c1, lB zs n) (a2, 128, c2, ct7 (eData x.f1)) (a3, 96, c3, x.f2) gp gs P (by show n / 8 + 1 ≤ 512; omega) rfl rfl h1 h2 h3 h4 h5
  rw [eV]
  rw [en] at l0 HNM HL0 ⊢
  rw [ez] at HNM
  have HFL := hid hFL
  clear hB0 r0 hry hx hw hFL eV hn en ez
  go_enter Tryz.func8, Tryz.ntmps8
  go_upto_region 1 with fail
  clear hW0 ey z0
  have HNX := hid (HNM.out W0 (Below.refl _ _))
  have HN' := hid (HN.out)
  go_upto_region 8 with (go_at_call 29; refine HNX.out.mono ?_; rintro e wr ⟨a1, c1, rfl, hr1, hb⟩)
  have S1 := hid hb
  have R0 := hid (show ∀ X, Below wr.heap.size wr X → Bys X a1 (n / 8 + 1) c1 (lB zs n) from fun X h => hr1.below h)
  have ld1 := HL1.out _ hb
  clear hr1 hb l0 n1
  go_upto_region 11 with (go_at_call 30; refine (rencData_any x.f1 _ HX.out.1).mono ?_; rintro e X2 ⟨v2, rfl, ho2, hb2⟩)
  obtain ⟨a2, c2, rfl, hr2⟩ := own_at ho2
  have S2 := hid (S1.out.trans (hb2.mono S1.out.size))
  have K1 := hid (show Below wr.heap.size wr X2 from hb2)
  have R1 := hid (show ∀ X, Below X2.heap.size X2 X → Bys X a2 128 c2 (ct7 (eData x.f1)) from fun X h => hr2.below h)
  clear ho2 hb2 hr2 ld1
  go_upto_region 12 with (at_builtin; refine wpList_append_bys _ rfl _ _ rfl X2.heap.size _ 0 [] rfl (World.ownsRow_made _ #[] 0 (Nat.le_refl _) (Nat.zero_le _) rfl) _ 96 96 x.f2 rfl (HB2.out _ (S2.out.alloc S2.out.size _)) (by omega) (by simp) ?_; intro v3 X3 ho3 hg3; rw [Nat.zero_add, List.nil_append] at ho3)
  have hb3 := below_grown ((Below.refl X2.heap.size X2).alloc (Nat.le_refl _) (.cells #[] 5)) (World.ownsRow_made _ #[] 0 (Nat.le_refl _) (Nat.zero_le _) rfl) (by simp) hg3
  obtain ⟨a3, c3, rfl, hr3⟩ := own_at ho3
  clear hg3 ho3
  have S3 := hid (S2.out.trans (hb3.mono S2.out.size))
  replace K1 := hid (K1.out.trans (hb3.mono K1.out.size))
  have K2 := hid (show Below X2.heap.size X2 X3 from hb3)
  have R2 := hid (show ∀ X, Below X3.heap.size X3 X → Bys X a3 96 c3 x.f2 from fun X h => hr3.below h)
  clear hb3 hr3
  obtain ⟨ps, eps⟩ : ∃ ps : List Pt, ([(a1, (n / 8 + 1), c1, lB zs n), (a2, 128, c2, ct7 (eData x.f1)), (a3, 96, c3, x.f2)] : List Pt) = ps := ⟨_, rfl⟩
  obtain ⟨Y1, hY1⟩ : ∃ Y, X3.alloc (.cells (ps.map ptv).toArray 34) = Y := ⟨_, rfl⟩
  obtain ⟨Y2, hY2⟩ : ∃ Y, Y1.alloc (.cells (vs .i64 3 zI) 3) = Y := ⟨_, rfl⟩
  have hy1 : Below X3.heap.size X3 Y1 := by rw [← hY1]; exact (Below.refl _ _).alloc (Nat.le_refl _) _
  have hy2 : Below X3.heap.size X3 Y2 := by rw [← hY2]; exact hy1.alloc hy1.size _
  have g1 : Y2.heap[X3.heap.size]? = some (.cells (ps.map ptv).toArray 34) := by
    rw [← hY2, ← hY1]
    exact (heap_old (by simp)).trans (heap_new rfl)
  have g2 : Y2.heap[Y1.heap.size]? = some (.cells (vs .i64 3 zI) 3) := by rw [← hY2]; exact heap_new rfl
  have bs1 := bsP_3 X3 (a1, (n / 8 + 1), c1, lB zs n) (a2, 128, c2, ct7 (eData x.f1)) (a3, 96, c3, x.f2)
  have bs2 := bsI_zI Y1
  have hla := HFL.out Y2 X3.heap.size Y1.heap.size a1 c1 a2 c2 a3 c3 (by rw [eps]; exact g1) g2 (R0.out _ (K1.out.trans (hy2.mono K1.out.size))) (R1.out _ (K2.out.trans (hy2.mono K2.out.size))) (R2.out _ hy2)
  rw [eps, hY1] at bs1
  rw [hY2] at bs2
  obtain ⟨u1, eu1⟩ : ∃ u, X3.heap.size = u := ⟨_, rfl⟩
  obtain ⟨u2, eu2⟩ : ∃ u, Y1.heap.size = u := ⟨_, rfl⟩
  rw [eu1] at bs1 hla
  rw [eu2] at bs2 hla
  replace bs1 : (bsP 3 #[(0, Value.slice a1 (n / 8 + 1) c1), (1, Value.slice a2 128 c2), (2, Value.slice a3 96 c3)]).run Tryz.prog X3 = .ok (.slice (some ⟨u1, 0, none⟩) 3 3) Y1 := bs1
  have HLA := hid hla
  have HY2 := hid hy2
  clear hla hy1 hy2 g1 g2 eps hY1 hY2 eu1 eu2
  go_wp2_with (go_at_call 31; refine HLA.out.mono ?_; rintro e Y ⟨v, rfl, ho, hbY⟩)
  go_ret2
  have e0 := EY.out
  have e1 := HB0w.out.size
  have e2 := S3.out.size
  have e3 := HY2.out.size
  exact ⟨v, rfl, (ho.mono (by omega) : _), HB0w.out.trans ((S3.out.mono (by omega)).trans ((HY2.out.mono (by omega)).trans (hbY.mono (by omega))))⟩
end Go.Proofs.YtokbhcgooboocaaGreatDoor

namespace Go.Proofs.YtokbhcgooboocaaGreatDoor
open Go.RowKit
set_option linter.unusedVariables false
set_option linter.unusedSimpArgs false
set_option maxRecDepth 20000

theorem rbvec64 (f : Nat → Bool) (a : Option Addr) (n c : Nat) (w : World) (h : Z.Bls w a n c f) (hn : n ≤ 64) :
    Calls Tryz.prog 35 #[.slice a n c] w fun e w' => ∃ a1 c1, e = .returned (.slice a1 ((n + 7) / 8) c1) ∧ Bys w' a1 ((n + 7) / 8) c1 (vB f n) ∧ Below w.heap.size w w' := (Z.rvector_any f a n c w h (by omega)).mono (by
  rintro e w' ⟨rfl, hr, hb, _⟩
  exact ⟨_, _, rfl, bys_row0 hr (by omega), hb⟩)

attribute [local go_sem ↓] sv24_eq lv24_eq ix22_eq slr_eq bd27_eq bs22_eq lvData_eq

set_option maxHeartbeats 2000000 in
theorem rrootAttest_long (x : VAttest) (w : World) (hn : 64 < x.n) :
    Calls Tryz.prog 9 #[.agg (cel (sAttest x))] w fun e w' => e = .returned (.tuple #[.agg (vs .u8 32 fun _ => 0), .int .i64 6]) ∧ Below w.heap.size w w' := by
  have z := zero_root
  have zc : ∀ W : World, (zeroValue 68).run Tryz.prog W = .ok (.agg (vs .u8 96 (fl7 [fun _ => 0, fun _ => 0, fun _ => 0]))) W := (zero_of_info (n := 96) (by kernel_rfl)).1
  obtain ⟨y, ey⟩ : ∃ y, w.heap.size = y := ⟨_, rfl⟩
  obtain ⟨W1, hW1⟩ : ∃ W, w.alloc (.cells (cel (sAttest x)) 33) = W := ⟨_, rfl⟩
  obtain ⟨W2, hW2⟩ : ∃ W, W1.alloc (.cells (vs .u8 32 fun _ => 0) 25) = W := ⟨_, rfl⟩
  obtain ⟨V0, hV0⟩ : ∃ W, W2.alloc (.cells (vs .u8 96 (fl7 [fun _ => 0, fun _ => 0, fun _ => 0])) 68) = W := ⟨_, rfl⟩
  have z1 : W1.heap.size = y + 1 := by rw [← hW1, ← ey]; simp
  have z2 : W2.heap.size = y + 2 := by rw [← hW2]; simp [z1]
  have z3 : V0.heap.size = y + 3 := by rw [← hV0]; simp [z2]
  have hB0 : Below w.heap.size w V0 := by rw [← hV0, ← hW2, ← hW1]; exact (((Below.refl _ _).alloc (Nat.le_refl _) _).alloc (by simp) _).alloc (by simp; omega) _
  have r1 : V0.heap[y]? = some (.cells (cel (sAttest x)) 33) := by rw [← hV0]; refine (heap_old (by omega)).trans ?_; rw [← hW2]; refine (heap_old (by omega)).trans ?_; rw [← hW1]; exact heap_new ey.symm
  have r2 : V0.heap[y + 1]? = some (.cells (vs .u8 32 fun _ => 0) 25) := by rw [← hV0]; refine (heap_old (by omega)).trans ?_; rw [← hW2]; exact heap_new z1.symm
  have r3 : V0.heap[y + 2]? = some (.cells (vs .u8 (32 * 3) (fl7 [fun _ => 0, fun _ => 0, fun _ => 0])) 68) := by rw [← hV0]; exact heap_new z2.symm
  have hry : ∀ X, Below (y + 2) V0 X → X.heap[y]? = some (.cells (cel (sAttest x)) 33) := fun X h => (h.block _ (by omega)).trans r1
  have hrr : ∀ X, Below (y + 2) V0 X → X.heap[y + 1]? = some (.cells (vs .u8 32 fun _ => 0) 25) := fun X h => (h.block _ (by omega)).trans r2
  have l0 : V0.cell? ⟨y, 0, none⟩ = some (.slice x.a x.n x.c) := seg_sl r1 0 x.a x.n x.c rfl 0 rfl
  have n1 : (64 : Int) < (x.n : Int) := by omega
  obtain ⟨N, eN⟩ : ∃ N, x.n = N := ⟨_, rfl⟩
  rw [eN] at l0 n1
  have rr := hrr V0 (Below.refl _ _)
  have sv := sv24_run rr (fun _ => 0)
  have bb := bd27_0
  have RR := hid rr
  have HB0 := hid hB0
  have EY := hid ey
  clear hrr hry r1 r2 r3 hB0 hn eN rr z3
  go_enter Tryz.func9, Tryz.ntmps9
  go_upto_region 3 with fail
  clear hW1 hW2 hV0 z1 z2 ey z zc
  go_wp2
  refine ret24s _ _ (y + 1) _ 25 _ rfl rfl rfl rfl (setRow_at RR.out) ⟨rfl, ?_⟩
  have e0 := EY.out
  exact below_row HB0.out (by omega) _

set_option maxRecDepth 20000 in
set_option maxHeartbeats 2000000 in
theorem rrootAttest_ok (x : VAttest) (w : World) (hx : OkAttest x) (hn : x.n ≤ 64) (hw : Z.Bls w x.a x.n x.c x.zs) (hC : Rc w) :
    Calls Tryz.prog 9 #[.agg (cel (sAttest x))] w fun e w' => e = .returned (.tuple #[.agg (vs .u8 32 (hAttest x)), .int .i64 0]) ∧ Below w.heap.size w w' := by
  have z := zero_root
  have zc : ∀ W : World, (zeroValue 68).run Tryz.prog W = .ok (.agg (vs .u8 96 (fl7 [fun _ => 0, fun _ => 0, fun _ => 0]))) W := (zero_of_info (n := 96) (by kernel_rfl)).1
  obtain ⟨y, ey⟩ : ∃ y, w.heap.size = y := ⟨_, rfl⟩
  obtain ⟨W1, hW1⟩ : ∃ W, w.alloc (.cells (cel (sAttest x)) 33) = W := ⟨_, rfl⟩
  obtain ⟨W2, hW2⟩ : ∃ W, W1.alloc (.cells (vs .u8 32 fun _ => 0) 25) = W := ⟨_, rfl⟩
  obtain ⟨V0, hV0⟩ : ∃ W, W2.alloc (.cells (vs .u8 96 (fl7 [fun _ => 0, fun _ => 0, fun _ => 0])) 68) = W := ⟨_, rfl⟩
  have z1 : W1.heap.size = y + 1 := by rw [← hW1, ← ey]; simp
  have z2 : W2.heap.size = y + 2 := by rw [← hW2]; simp [z1]
  have z3 : V0.heap.size = y + 3 := by rw [← hV0]; simp [z2]
  have hB0 : Below w.heap.size w V0 := by rw [← hV0, ← hW2, ← hW1]; exact (((Below.refl _ _).alloc (Nat.le_refl _) _).alloc (by simp) _).alloc (by simp; omega) _
  have r1 : V0.heap[y]? = some (.cells (cel (sAttest x)) 33) := by rw [← hV0]; refine (heap_old (by omega)).trans ?_; rw [← hW2]; refine (heap_old (by omega)).trans ?_; rw [← hW1]; exact heap_new ey.symm
  have r2 : V0.heap[y + 1]? = some (.cells (vs .u8 32 fun _ => 0) 25) := by rw [← hV0]; refine (heap_old (by omega)).trans ?_; rw [← hW2]; exact heap_new z1.symm
  have r3 : V0.heap[y + 2]? = some (.cells (vs .u8 (32 * 3) (fl7 [fun _ => 0, fun _ => 0, fun _ => 0])) 68) := by rw [← hV0]; exact heap_new z2.symm
  have hry : ∀ X, Below (y + 2) V0 X → X.heap[y]? = some (.cells (cel (sAttest x)) 33) := fun X h => (h.block _ (by omega)).trans r1
  have hrr : ∀ X, Below (y + 2) V0 X → X.heap[y + 1]? = some (.cells (vs .u8 32 fun _ => 0) 25) := fun X h => (h.block _ (by omega)).trans r2
  have hRc : ∀ X, Below (y + 2) V0 X → Rc X := fun X h => hC.below (hB0.trans (h.mono (by omega)))
  have HL0 : Hid (∀ X, Below (y + 2) V0 X → X.cell? ⟨y, 0, none⟩ = some (.slice x.a x.n x.c)) := fun X h => seg_sl (hry X h) 0 x.a x.n x.c rfl 0 rfl
  have HNM : Hid (∀ X, Below (y + 2) V0 X → Calls Tryz.prog 35 #[.slice x.a x.n x.c] X fun e w' => ∃ a1 c1, e = .returned (.slice a1 ((x.n + 7) / 8) c1) ∧ Bys w' a1 ((x.n + 7) / 8) c1 (vB x.zs x.n) ∧ Below X.heap.size X w') := fun X h => rbvec64 x.zs x.a x.n x.c X (hw.below (hB0.trans (h.mono (by omega)))) hn
  have hk0 : ∀ X a c, Below (y + 2) V0 X → Bys X a ((x.n + 7) / 8) c (vB x.zs x.n) → Calls Tryz.prog 34 #[.slice a ((x.n + 7) / 8) c] X fun e w' => ∃ a' cap', e = .returned (.slice a' (cks ((x.n + 7) / 8)) cap') ∧ Below X.heap.size X w' ∧ Rts w' a' (cks ((x.n + 7) / 8)) cap' (pk (vB x.zs x.n) ((x.n + 7) / 8)) := fun X a c h hb => rpack_any a ((x.n + 7) / 8) c (vB x.zs x.n) X hb (by omega)
  have hm0 : ∀ X a c, Below (y + 2) V0 X → Rts X a (cks ((x.n + 7) / 8)) c (pk (vB x.zs x.n) ((x.n + 7) / 8)) → Calls Tryz.prog 33 #[.slice a (cks ((x.n + 7) / 8)) c, .int .i64 1] X fun e w' => e = .returned (.agg (vs .u8 32 (treeV (pk (vB x.zs x.n) ((x.n + 7) / 8)) (cks ((x.n + 7) / 8)) (1 : Nat)))) ∧ Below X.heap.size X w' := fun X a c h hr => must7 a (cks ((x.n + 7) / 8)) c (pk (vB x.zs x.n) ((x.n + 7) / 8)) (1 : Nat) X (hRc X h) hr (rts_le hr) (pk_bd (fun j _ => vB_bd _ _ j) _) (by decide) (by decide) (by unfold cks; omega)
  have hc0 : ∀ X, Below (y + 2) V0 X → Calls Tryz.prog 32 #[.agg (vs .u8 32 (treeV (pk (vB x.zs x.n) ((x.n + 7) / 8)) (cks ((x.n + 7) / 8)) (1 : Nat))), .int .u64 x.n] X fun e w' => e = .returned (.agg (vs .u8 32 (lR (vB x.zs x.n) ((x.n + 7) / 8) 1 x.n))) ∧ Below X.heap.size X w' := fun X h => rmix_any _ (x.n : Int) X (hRc X h) (fun j hj => treeV_bd (pk_bd (fun j _ => vB_bd _ _ j) _) _ j hj) (by omega) (by omega)
  have hd0 : ∀ j, j < 32 → 0 ≤ (lR (vB x.zs x.n) ((x.n + 7) / 8) 1 x.n) j ∧ (lR (vB x.zs x.n) ((x.n + 7) / 8) 1 x.n) j < 256 := fun j hj => lR_bd _ _ (fun j _ => vB_bd _ _ j) j hj
  have HL1 : Hid (∀ X, Below (y + 2) V0 X → (lvData ⟨y, 1, none⟩).run Tryz.prog X = .ok (.agg (cel (sData x.f1))) X) := fun X h => lvData_mid (hry X h) 1 rfl rfl
  have hc1 : ∀ X, Below (y + 2) V0 X → Calls Tryz.prog 36 #[.agg (cel (sData x.f1))] X fun e w' => e = .returned (.tuple #[.agg (vs .u8 32 (hData x.f1)), .int .i64 0]) ∧ Below X.heap.size X w' := fun X h => rrootData_any x.f1 X hx.1 (hRc X h)
  have hd1 : ∀ j, j < 32 → 0 ≤ (hData x.f1) j ∧ (hData x.f1) j < 256 := fun j hj => hData_bd hx.1 j hj
  have hk2 : ∀ X, Below (y + 2) V0 X → Calls Tryz.prog 34 #[.slice (some ⟨y, 101, none⟩) 96 96] X fun e w' => ∃ a' cap', e = .returned (.slice a' 3 cap') ∧ Below X.heap.size X w' ∧ Rts w' a' 3 cap' (pk x.f2 96) := fun X h => rpack_any _ 96 96 x.f2 X (seg_bys (hry X h) 8 96 x.f2 rfl 101 rfl (by omega)) (by omega)
  have hc2 : ∀ X a c, Below (y + 2) V0 X → Rts X a 3 c (pk x.f2 96) → Calls Tryz.prog 33 #[.slice a 3 c, .int .i64 3] X fun e w' => e = .returned (.agg (vs .u8 32 (bR x.f2 96))) ∧ Below X.heap.size X w' := fun X a c h hr => must7 a 3 c (pk x.f2 96) 3 X (hRc X h) hr (rts_cap hr (by omega)) (pk_bd hx.2 _) (by decide) (by decide) (by decide)
  have hd2 : ∀ j, j < 32 → 0 ≤ (bR x.f2 96) j ∧ (bR x.f2 96) j < 256 := fun j hj => treeV_bd (pk_bd hx.2 _) _ j hj
  have eh : ∀ j, j < 32 → treeV (fl7 [lR (vB x.zs x.n) ((x.n + 7) / 8) 1 x.n, hData x.f1, bR x.f2 96]) 3 (3 : Nat) j = hAttest x j := fun j hj => treeV_congr (fun q hq => by
    unfold fl7
    have hq5 := Nat.mod_lt q (show 0 < 32 by omega)
    rcases (by omega : q / 32 = 0 ∨ q / 32 = 1 ∨ q / 32 = 2) with e | e | e
    · first | (rw [e]; done) | (rw [e]; rfl)
    · first | (rw [e]; done) | (rw [e]; rfl)
    · first | (rw [e]; done) | (rw [e]; rfl)
    ) _ j hj
  obtain ⟨C0, eC0⟩ : ∃ C, lR (vB x.zs x.n) ((x.n + 7) / 8) 1 x.n = C := ⟨_, rfl⟩
  rw [eC0] at hd0 hc0
  simp only [eC0] at eh
  have HC0 := hid hc0
  have HK0 := hid hk0
  have HM0 := hid hm0
  obtain ⟨n, en⟩ : ∃ n, x.n = n := ⟨_, rfl⟩
  obtain ⟨zs, ez⟩ : ∃ zs, x.zs = zs := ⟨_, rfl⟩
  rw [en] at HL0 HNM HC0 HK0 HM0 hn
  rw [ez] at HNM HC0 HK0 HM0
  obtain ⟨Q, eQ⟩ : ∃ Q, treeV (pk (vB zs n) ((n + 7) / 8)) (cks ((n + 7) / 8)) (1 : Nat) = Q := ⟨_, rfl⟩
  obtain ⟨ck, eck⟩ : ∃ c, cks ((n + 7) / 8) = c := ⟨_, rfl⟩
  rw [eQ] at HC0 HM0
  rw [eck] at HK0 HM0
  have HN := hid hn
  have n1 : ¬ (64 : Int) < (n : Int) := by omega
  have n0 : (0 : Int) ≤ (n : Int) := by omega
  have n2 : (n : Int) ≤ 64 := by omega
  have wr : IntKind.u64.wrap (n : Int) = (n : Int) := by rw [IntKind.wrap_u64]; omega
  obtain ⟨C1, eC1⟩ : ∃ C, hData x.f1 = C := ⟨_, rfl⟩
  rw [eC1] at hd1 hc1
  simp only [eC1] at eh
  have HC1 := hid hc1
  obtain ⟨C2, eC2⟩ : ∃ C, bR x.f2 96 = C := ⟨_, rfl⟩
  rw [eC2] at hd2 hc2
  simp only [eC2] at eh
  have HC2 := hid hc2
  have HK2 := hid hk2
  have hmu : ∀ X, Below (y + 2) V0 X → X.heap[y + 2]? = some (.cells (vs .u8 (32 * 3) (fl7 [C0, C1, C2])) 68) → Calls Tryz.prog 33 #[.slice (some ⟨y + 2, 0, none⟩) 3 3, .int .i64 3] X fun e w' => e = .returned (.agg (vs .u8 32 (hAttest x))) ∧ Below X.heap.size X w' := fun X h h2 => by
    have := must7 (some ⟨y + 2, 0, none⟩) 3 3 (fl7 [C0, C1, C2]) (3 : Nat) X (hRc X h) (rts_row h2) (by omega) (fl7_bd (fun c hc => by
      simp only [List.mem_cons, List.not_mem_nil, or_false] at hc
      rcases hc with rfl | rfl | rfl
      · exact hd0
      · exact hd1
      · exact hd2
      ) _) (by decide) (by decide) (by decide)
    rw [vs_congr (fun j hj => eh j hj)] at this
    exact this
  obtain ⟨D, eD⟩ : ∃ D, hAttest x = D := ⟨_, rfl⟩
  rw [eD] at hmu ⊢
  obtain ⟨u, eu⟩ : ∃ u, y + 2 = u := ⟨_, rfl⟩
  rw [eu] at hmu
  have HU := hid eu
  have HMU := hid hmu
  have HRR := hid hrr
  have HB0w := hid hB0
  have EY := hid ey
  have Z3 := hid z3
  have HX := hid hx
  have RV0 := hid r3
  have SV0 := hid (Below.refl (y + 2) V0)
  rw [eu] at RV0
  clear hmu hrr hB0 z3 r1 r2 r3 hry hRc hx hC eh eD hd0 eC0 hc0 hd1 eC1 hc1 hd2 eC2 hc2 hk2 hk0 hm0 hw hn en ez eQ eck
  go_enter Tryz.func9, Tryz.ntmps9
  go_upto_region 3 with fail
  clear hW1 hW2 hV0 z1 z2 ey z zc
  try rw [eu]
  clear eu
  have ld := HL0.out _ SV0.out
  go_upto_region 5 with fail
  obtain ⟨vd, hvd⟩ : ∃ X, V0.drew = X := ⟨_, rfl⟩
  have Sd : Hid (Below (y + 2) V0 V0.drew) := (Below.refl _ _).drew
  have Rd : Hid (V0.drew.heap[u]? = some (.cells (vs .u8 (32 * 3) (fl7 [fun _ => 0, fun _ => 0, fun _ => 0])) 68)) := RV0.out
  refine wp_region_noPanic ?_
  refine wp_region_held_drew (S := fun X => Below (y + 2) V0 X) (by kernel_rfl) (Sd.out) (fun hHeld => ?_)
  rw [hvd] at hHeld Sd Rd ⊢
  clear hvd
  refine wpAnyH_take (i := 0) (v := ?v1) rfl (by kernel_rfl) (by kernel_rfl) (by kernel_rfl) (fun _ _ _ h => h) (Or.inl ⟨by rfl, ?hy1⟩) hHeld ?rest1
  case hy1 =>
    intro w hSw
    go_simp
    try with_reducible rfl
  try simp only [Act.put, List.setIfInBounds_toArray, List.set_cons_zero, List.set_cons_succ, Array.toArray_toList, List.getElem_toArray, List.getElem_cons_zero, List.getElem_cons_succ]
  refine wpAnyH_take (i := 1) (v := ?v2) rfl (by kernel_rfl) (by kernel_rfl) (by kernel_rfl) (fun _ _ _ h => h) (Or.inl ⟨by rfl, ?hy2⟩) hHeld ?rest2
  case hy2 =>
    intro w hSw
    have ld := HL0.out _ hSw
    go_simp
    try with_reducible rfl
  try simp only [Act.put, List.setIfInBounds_toArray, List.set_cons_zero, List.set_cons_succ, Array.toArray_toList, List.getElem_toArray, List.getElem_cons_zero, List.getElem_cons_succ]
  refine wpAnyH_take (i := 5) (v := ?v3) rfl (by kernel_rfl) (by kernel_rfl) (by kernel_rfl) (fun _ _ _ h => h) (Or.inl ⟨by rfl, ?hy3⟩) hHeld ?rest3
  case hy3 =>
    intro w hSw
    go_simp
    try with_reducible rfl
  try simp only [Act.put, List.setIfInBounds_toArray, List.set_cons_zero, List.set_cons_succ, Array.toArray_toList, List.getElem_toArray, List.getElem_cons_zero, List.getElem_cons_succ]
  refine wpAnyH_take (i := 6) (v := ?v4) rfl (by kernel_rfl) (by kernel_rfl) (by kernel_rfl) (fun _ _ _ h => h) (Or.inl ⟨by rfl, ?hy4⟩) hHeld ?rest4
  case hy4 =>
    intro w hSw
    have ld := HL0.out _ hSw
    go_simp
    try with_reducible rfl
  try simp only [Act.put, List.setIfInBounds_toArray, List.set_cons_zero, List.set_cons_succ, Array.toArray_toList, List.getElem_toArray, List.getElem_cons_zero, List.getElem_cons_succ]
  refine wpAnyH_take (i := 7) (v := ?v5) rfl (by kernel_rfl) (by kernel_rfl) (by kernel_rfl) (fun _ _ _ h => h) (Or.inl ⟨by rfl, ?hy5⟩) hHeld ?rest5
  case hy5 =>
    intro w hSw
    go_simp
    try with_reducible rfl
  try simp only [Act.put, List.setIfInBounds_toArray, List.set_cons_zero, List.set_cons_succ, Array.toArray_toList, List.getElem_toArray, List.getElem_cons_zero, List.getElem_cons_succ]
  refine wpAnyH_take (i := 8) (v := ?v6) rfl (by kernel_rfl) (by kernel_rfl) (by kernel_rfl) (fun _ _ _ h => h) (Or.inl ⟨by rfl, ?hy6⟩) hHeld ?rest6
  case hy6 =>
    intro w hSw
    go_simp
    try with_reducible rfl
  try simp only [Act.put, List.setIfInBounds_toArray, List.set_cons_zero, List.set_cons_succ, Array.toArray_toList, List.getElem_toArray, List.getElem_cons_zero, List.getElem_cons_succ]
  refine wpAnyH_ready (rs := [2]) (by kernel_rfl) (by simp) ?_
  refine AllReadyH.cons rfl (fun K hK => ?_) AllReadyH.nil
  go_simp
  refine (HNM.out _ Sd.out).mono ?_
  rintro e X7 ⟨a7, c7, rfl, hr, hb⟩
  dsimp only
  have S7 := hid (Sd.out.trans (hb.mono (by have h1 := HU.out; have h2 := Z3.out; have h3 := Sd.out.size; omega)))
  have R7 := hid ((hb.block _ (Array.getElem?_eq_some_iff.1 Rd.out).1).trans Rd.out)
  have HPK := hid (HK0.out _ _ _ S7.out hr)
  clear hr hb
  refine hK.out _ _ (S7.out) (fun hHeld => ?_)
  clear hK K
  try simp only [Act.put, List.setIfInBounds_toArray, List.set_cons_zero, List.set_cons_succ, Array.toArray_toList, List.getElem_toArray, List.getElem_cons_zero, List.getElem_cons_succ]
  refine wpAnyH_ready (rs := [3]) (by kernel_rfl) (by simp) ?_
  refine AllReadyH.cons rfl (fun K hK => ?_) AllReadyH.nil
  go_simp
  refine (HPK.out).mono ?_
  rintro e X8 ⟨a8, c8, rfl, hb, hr⟩
  dsimp only
  have S8 := hid (S7.out.trans (hb.mono (by have h1 := HU.out; have h2 := Z3.out; have h3 := S7.out.size; omega)))
  have R8 := hid ((hb.block _ (Array.getElem?_eq_some_iff.1 R7.out).1).trans R7.out)
  have CY := hid (HM0.out _ _ _ S8.out hr)
  clear hr hb
  refine hK.out _ _ (S8.out) (fun hHeld => ?_)
  clear hK K
  try simp only [Act.put, List.setIfInBounds_toArray, List.set_cons_zero, List.set_cons_succ, Array.toArray_toList, List.getElem_toArray, List.getElem_cons_zero, List.getElem_cons_succ]
  refine wpAnyH_ready (rs := [4]) (by kernel_rfl) (by simp) ?_
  refine AllReadyH.cons rfl (fun K hK => ?_) AllReadyH.nil
  go_simp
  refine (CY.out).mono ?_
  rintro e X9 ⟨rfl, hb⟩
  dsimp only
  have S9 := hid (S8.out.trans (hb.mono (by have h1 := HU.out; have h2 := Z3.out; have h3 := S8.out.size; omega)))
  have R9 := hid ((hb.block _ (Array.getElem?_eq_some_iff.1 R8.out).1).trans R8.out)
  clear hb
  refine hK.out _ _ (S9.out) (fun hHeld => ?_)
  clear hK K
  try simp only [Act.put, List.setIfInBounds_toArray, List.set_cons_zero, List.set_cons_succ, Array.toArray_toList, List.getElem_toArray, List.getElem_cons_zero, List.getElem_cons_succ]
  refine wpAnyH_ready (rs := [9]) (by kernel_rfl) (by simp) ?_
  refine AllReadyH.cons rfl (fun K hK => ?_) AllReadyH.nil
  go_simp
  refine (HC0.out _ S9.out).mono ?_
  rintro e X0 ⟨rfl, hb⟩
  dsimp only
  have S0 := hid (S9.out.trans (hb.mono (by have h1 := HU.out; have h2 := Z3.out; have h3 := S9.out.size; omega)))
  have R0 := hid ((hb.block _ (Array.getElem?_eq_some_iff.1 R9.out).1).trans R9.out)
  clear hb
  refine hK.out _ _ (S0.out) (fun hHeld => ?_)
  clear hK K
  try simp only [Act.put, List.setIfInBounds_toArray, List.set_cons_zero, List.set_cons_succ, Array.toArray_toList, List.getElem_toArray, List.getElem_cons_zero, List.getElem_cons_succ]
  refine wpAnyH_take (i := 10) (v := ?v7) rfl (by kernel_rfl) (by kernel_rfl) (by kernel_rfl) (fun _ _ _ h => h) (Or.inl ⟨by rfl, ?hy7⟩) hHeld ?rest7
  case hy7 =>
    intro w hSw
    go_simp
    try with_reducible rfl
  try simp only [Act.put, List.setIfInBounds_toArray, List.set_cons_zero, List.set_cons_succ, Array.toArray_toList, List.getElem_toArray, List.getElem_cons_zero, List.getElem_cons_succ]
  obtain ⟨sv, nr, nb⟩ := put7 (l := [fun _ => 0, fun _ => 0, fun _ => 0]) (n := 3) S0.out (by rw [← HU.out]; exact Nat.le_refl _) R0.out 0 C0 (by omega) rfl
  have NR := hid nr
  have NB := hid nb
  clear nr nb
  refine wpAnyH_ready (rs := [11]) (by kernel_rfl) (by simp) ?_
  refine AllReadyH.cons rfl (fun K hK => ?_) AllReadyH.nil
  go_simp
  refine hK.out _ _ NB.out (fun hHeld => ?_)
  clear hK K
  try simp only [Act.put, List.setIfInBounds_toArray, List.set_cons_zero, List.set_cons_succ, Array.toArray_toList, List.getElem_toArray, List.getElem_cons_zero, List.getElem_cons_succ]
  refine wpAnyH_done (by kernel_rfl) ?_ _
  refine NoPanic.normal ?_
  go_upto_region 6 with fail
  clear ld n1
  obtain ⟨V1, hV⟩ : ∃ V, X0.setCells u 0 (bl C0 32) = V := ⟨_, rfl⟩
  have RV1 : Hid (V1.heap[u]? = some (.cells (vs .u8 (32 * 3) (fl7 [C0, fun _ => 0, fun _ => 0])) 68)) := by rw [← hV]; exact NR.out
  have SV1 : Hid (Below (y + 2) V0 V1) := by rw [← hV]; exact NB.out
  rw [hV]
  clear hV NR NB sv
  have ld := HL1.out _ SV1.out
  go_upto_region 9 with (go_at_call 36; refine (HC1.out _ SV1.out).mono ?_; rintro e X1 ⟨rfl, hb⟩; have sb := SV1.out.trans (hb.mono (by have h1 := HU.out; have h2 := Z3.out; have h3 := SV1.out.size; omega)); have rb := (hb.block _ (Array.getElem?_eq_some_iff.1 RV1.out).1).trans RV1.out; obtain ⟨sv, nr, nb⟩ := put7 (l := [C0, fun _ => 0, fun _ => 0]) (n := 3) sb (by rw [← HU.out]; exact Nat.le_refl _) rb 1 C1 (by omega) rfl; have NR := hid nr; have NB := hid nb; clear nr nb sb rb hb)
  clear ld
  obtain ⟨V2, hV⟩ : ∃ V, X1.setCells u 32 (bl C1 32) = V := ⟨_, rfl⟩
  have RV2 : Hid (V2.heap[u]? = some (.cells (vs .u8 (32 * 3) (fl7 [C0, C1, fun _ => 0])) 68)) := by rw [← hV]; exact NR.out
  have SV2 : Hid (Below (y + 2) V0 V2) := by rw [← hV]; exact NB.out
  rw [hV]
  clear hV NR NB sv
  go_upto_region 10 with (first
    | (go_at_call 34; refine (HK2.out _ SV2.out).mono ?_; rintro e Y ⟨a, c, rfl, hb, hr⟩; have SY := hid (SV2.out.trans (hb.mono (by have h1 := HU.out; have h2 := Z3.out; have h3 := SV2.out.size; omega))); have RY := hid ((hb.block _ (Array.getElem?_eq_some_iff.1 RV2.out).1).trans RV2.out); have CY := hid (HC2.out _ _ _ SY.out hr); clear hr hb)
    | (go_at_call 33; refine CY.out.mono ?_; rintro e X2 ⟨rfl, hb⟩; have sb := SY.out.trans (hb.mono (by have h1 := HU.out; have h2 := Z3.out; have h3 := SY.out.size; omega)); have rb := (hb.block _ (Array.getElem?_eq_some_iff.1 RY.out).1).trans RY.out; obtain ⟨sv, nr, nb⟩ := put7 (l := [C0, C1, fun _ => 0]) (n := 3) sb (by rw [← HU.out]; exact Nat.le_refl _) rb 2 C2 (by omega) rfl; have NR := hid nr; have NB := hid nb; clear nr nb sb rb hb))
  clear CY
  obtain ⟨V3, hV⟩ : ∃ V, X2.setCells u 64 (bl C2 32) = V := ⟨_, rfl⟩
  have RV3 : Hid (V3.heap[u]? = some (.cells (vs .u8 (32 * 3) (fl7 [C0, C1, C2])) 68)) := by rw [← hV]; exact NR.out
  have SV3 : Hid (Below (y + 2) V0 V3) := by rw [← hV]; exact NB.out
  rw [hV]
  clear hV NR NB sv
  have HM := hid (HMU.out _ (by have := SV3.out; rw [HU.out] at this; exact this) RV3.out)
  go_wp2_with (go_at_call 33; refine HM.out.mono ?_; rintro e Y ⟨rfl, hb⟩; have sy := SV3.out.trans (hb.mono (by have h1 := HU.out; have h2 := Z3.out; have h3 := SV3.out.size; omega)); have rY := HRR.out _ sy; have s1 := sv24_run rY D; have RY := hid rY; have SY := hid sy; clear rY sy hb)
  refine ret24s _ _ (y + 1) _ 25 _ rfl rfl rfl rfl (setRow_at RY.out) ⟨rfl, ?_⟩
  have e0 := EY.out
  exact below_row (HB0w.out.trans (SY.out.mono (by omega))) (by omega) _
end Go.Proofs.YtokbhcgooboocaaGreatDoor
