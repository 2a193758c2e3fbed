/-
  Indexed: what the reference's Enc answers.
-/
import Derived.Test.YtokbhcgooboocaaGreatDoorOpCp
import Derived.Test.YtokbhcgooboocaaGreatDoorOiAp
import Derived.Test.YtokbhcgooboocaaGreatDoorTrDatap
namespace Go.Proofs.YtokbhcgooboocaaGreatDoor
open Go.RowKit
set_option linter.unusedVariables false
set_option linter.unusedSimpArgs false
set_option maxRecDepth 20000

/-- Parts laid by the reference. -/
theorem rolay (ps : List Pt) (zs : Nat → Int) (n g sa : Nat) (w : World) (hn : ps.length = n) (hsz : Z.szB zs n = true) (hg : w.heap[g]? = some (.cells (ps.map ptv).toArray 34)) (hs : w.heap[sa]? = some (.cells (vs .i64 n zs) 3)) (hb : ∀ r, r < n → Bys w (ps.getD r nilP).1 (ps.getD r nilP).2.1 (ps.getD r nilP).2.2.1 (ps.getD r nilP).2.2.2) (hl : ∀ r, r < n → (ps.getD r nilP).2.1 ≤ 65536) (hf : Z.Fits zs (fun r => (ps.getD r nilP).2.1) n) (ht : Z.hdL zs n + Z.loL zs (fun r => (ps.getD r nilP).2.1) n < 4294967296) :
    Calls Tryz.prog 31 #[.slice (some ⟨g, 0, none⟩) n n, .slice (some ⟨sa, 0, none⟩) n n] w fun e w' => ∃ v, e = .returned (.tuple #[v, .int .i64 0]) ∧ w'.ownsRow w.heap.size 5 1 v (Z.hdL zs n + Z.loL zs (fun r => (ps.getD r nilP).2.1) n) (Z.iv (Z.layC zs (fun r => (ps.getD r nilP).2.2.2) (fun r => (ps.getD r nilP).2.1) n)) ∧ Below w.heap.size w w' := by
  have hpar : Z.Parts w (some ⟨g, 0, none⟩) n (fun r => (ps.getD r nilP).1) (fun r => (ps.getD r nilP).2.1) (fun r => (ps.getD r nilP).2.2.1) (fun r => (ps.getD r nilP).2.2.2) := by
    refine .inr ⟨g, 0, rfl, (Array.getElem?_eq_some_iff.1 hg).1, fun r hr => ⟨?_, hb r hr⟩⟩
    rw [Nat.zero_add, pt_cell hg r (by omega)]
    rfl
  have hnm : Z.Nms .i64 w (some ⟨sa, 0, none⟩) n zs := .inr ⟨sa, 0, rfl, (Array.getElem?_eq_some_iff.1 hs).1, fun j hj => by rw [Nat.zero_add]; exact row_int hs j hj⟩
  exact Z.rlay_ok zs (some ⟨g, 0, none⟩) n n _ _ _ _ (some ⟨sa, 0, none⟩) n w hpar hnm hsz (fun r hr => by have := hl r hr; omega) ht hf

theorem rolayI (p0 p1 p2 : Pt) (g sa : Nat) (w : World) (h0 : p0.2.1 ≤ 512) (h1 : p1.2.1 = 128) (h2 : p2.2.1 = 96) (hg : w.heap[g]? = some (.cells ([p0, p1, p2].map ptv).toArray 34)) (hs : w.heap[sa]? = some (.cells (vs .i64 3 zI) 3)) (b0 : Bys w p0.1 p0.2.1 p0.2.2.1 p0.2.2.2) (b1 : Bys w p1.1 p1.2.1 p1.2.2.1 p1.2.2.2) (b2 : Bys w p2.1 p2.2.1 p2.2.2.1 p2.2.2.2) :
    Calls Tryz.prog 31 #[.slice (some ⟨g, 0, none⟩) 3 3, .slice (some ⟨sa, 0, none⟩) 3 3] w fun e w' => ∃ v, e = .returned (.tuple #[v, .int .i64 0]) ∧ w'.ownsRow w.heap.size 5 1 v (228 + p0.2.1) (bl (ct7 [(4, oI), (128, p1.2.2.2), (96, p2.2.2.2), (p0.2.1, p0.2.2.2)]) (228 + p0.2.1)) ∧ Below w.heap.size w w' := by
  obtain ⟨e1, e2⟩ := layI p0 p1 p2 h1 h2
  have c3 : ∀ (P : Nat → Prop), P 0 → P 1 → P 2 → ∀ r, r < 3 → P r := fun P q0 q1 q2 r hr => by
    rcases (by omega : r = 0 ∨ r = 1 ∨ r = 2) with rfl | rfl | rfl
    · exact q0
    · exact q1
    · exact q2
  have h := rolay [p0, p1, p2] zI 3 g sa w rfl (by decide) hg hs (c3 _ b0 b1 b2) (c3 _ (Nat.le_trans h0 (by decide)) (by show p1.2.1 ≤ _; omega) (by show p2.2.1 ≤ _; omega)) (c3 _ (fun h => absurd rfl h) (fun _ => by show (p1.2.1 : Int) = 128; omega) (fun _ => by show (p2.2.1 : Int) = 96; omega)) (by rw [e1]; omega)
  rw [e1, e2, ← bl_ct7] at h
  have e3 : ln7 [(4, oI), (128, p1.2.2.2), (96, p2.2.2.2), (p0.2.1, p0.2.2.2)] = 228 + p0.2.1 := by
    show 4 + (128 + (96 + (p0.2.1 + 0))) = _
    omega
  rw [e3] at h
  exact h

attribute [local go_sem ↓] sv8_eq

set_option maxRecDepth 20000 in
set_option maxHeartbeats 1000000 in
theorem rnumber8 (n : Int) (w : World) (h0 : 0 ≤ n) (h1 : n < 18446744073709551616) :
    Calls Tryz.prog 88 #[.int .u64 n] w fun e w' => ∃ v, e = .returned v ∧ w'.ownsRow w.heap.size 5 1 v 8 (bl (nmB n) 8) ∧ Below w.heap.size w w' := by
  have hb := rbytes_any n w h0 (by omega)
  have HB := hid hb
  have sv := fun W => sv8_newv W (fun _ => 0) (nmB n)
  have z := zero_8
  clear hb
  go_enter Tryz.func88, Tryz.ntmps88
  go_upto_region 2 with (go_at_call 71; refine HB.out.mono ?_; rintro e w1 ⟨rfl, hb1⟩)
  obtain ⟨W2, hW2⟩ : ∃ W, w1.alloc (.cells (vs .u8 8 (nmB n)) 101) = W := ⟨_, rfl⟩
  rw [hW2]
  have r1 : W2.heap[w1.heap.size]? = some (.cells (vs .u8 8 (nmB n)) 101) := by rw [← hW2]; exact heap_new rfl
  have hB2 : Below w.heap.size w W2 := by rw [← hW2]; exact hb1.alloc hb1.size _
  have HBY := hid (bys_new r1 (by omega))
  have HB2 := hid hB2
  clear r1 hW2 hB2 sv z hb1
  go_wp2_with (at_builtin; refine wpList_append_bys _ rfl _ _ rfl W2.heap.size _ 0 [] rfl (World.ownsRow_made _ #[] 0 (Nat.le_refl _) (Nat.zero_le _) rfl) _ 8 8 (nmB n) rfl (HBY.out.below (by go_grown)) (by omega) (by simp) ?_; intro v1 w3 ho1 hg1; rw [Nat.zero_add, List.nil_append] at ho1)
  go_ret
  have hb3 := below_grown ((Below.refl W2.heap.size W2).alloc (Nat.le_refl _) (.cells #[] 5)) (World.ownsRow_made _ #[] 0 (Nat.le_refl _) (Nat.zero_le _) rfl) (by simp) hg1
  exact ⟨v1, rfl, ho1.mono HB2.out.size, HB2.out.trans (hb3.mono HB2.out.size)⟩

theorem bsI_zI (W : World) : (bsI 3 #[(0, .int .i64 0), (1, .int .i64 128), (2, .int .i64 96)]).run Tryz.prog W = .ok (.slice (some ⟨W.heap.size, 0, none⟩) 3 3) (W.alloc (.cells (vs .i64 3 zI) 3)) := by kernel_rfl

attribute [local go_sem ↓] bsP_eq bsI_eq lvData_eq

set_option maxRecDepth 20000 in
set_option maxHeartbeats 2000000 in
theorem rencIndexed_long (x : VIndexed) (w : World) (hn : 64 < x.n) :
    Calls Tryz.prog 45 #[.agg (cel (sIndexed x))] w fun e w' => e = .returned (.tuple #[.slice none 0 0, .int .i64 6]) ∧ Below w.heap.size w w' := by
  obtain ⟨W0, hW0⟩ : ∃ W, w.alloc (.cells (cel (sIndexed x)) 46) = W := ⟨_, rfl⟩
  have hB0 : Below w.heap.size w W0 := by rw [← hW0]; exact (Below.refl _ _).alloc (Nat.le_refl _) _
  have r0 : W0.heap[w.heap.size]? = some (.cells (cel (sIndexed x)) 46) := by rw [← hW0]; exact heap_new rfl
  have z0 : w.heap.size < W0.heap.size := by rw [← hW0]; simp
  obtain ⟨y, ey⟩ : ∃ y, w.heap.size = y := ⟨_, rfl⟩
  have hry : ∀ X, Below W0.heap.size W0 X → X.heap[y]? = some (.cells (cel (sIndexed x)) 46) := fun X h => by rw [← ey]; exact (h.block _ z0).trans r0
  have HL0 : Hid (∀ X, Below W0.heap.size W0 X → X.cell? ⟨y, 0, none⟩ = some (.slice x.a x.n x.c)) := fun X h => seg_sl (hry X h) 0 x.a x.n x.c rfl 0 rfl
  have l0 := HL0.out _ (Below.refl _ _)
  have HB0w := hid hB0
  have n1 : (64 : Int) < (x.n : Int) := by omega
  obtain ⟨N, eN⟩ : ∃ N, x.n = N := ⟨_, rfl⟩
  rw [eN] at l0 n1
  clear hB0 r0 hry hn eN HL0
  go_enter Tryz.func45, Tryz.ntmps45
  go_upto_region 1 with fail
  clear hW0 ey z0
  go_wp2
  go_ret2
  exact ⟨rfl, HB0w.out⟩

set_option maxRecDepth 20000 in
set_option maxHeartbeats 2000000 in
theorem rencIndexed_ok (x : VIndexed) (w : World) (hx : OkIndexed x) (hn : x.n ≤ 64) (hw : Z.Nms .u64 w x.a x.n x.zs) :
    Calls Tryz.prog 45 #[.agg (cel (sIndexed x))] w fun e w' => ∃ v, e = .returned (.tuple #[v, .int .i64 0]) ∧ w'.ownsRow w.heap.size 5 1 v (228 + 8 * x.n) (bl (ct7 (eIndexed x)) (228 + 8 * x.n)) ∧ Below w.heap.size w w' := by
  have HX := hid hx
  obtain ⟨W0, hW0⟩ : ∃ W, w.alloc (.cells (cel (sIndexed x)) 46) = W := ⟨_, rfl⟩
  have hB0 : Below w.heap.size w W0 := by rw [← hW0]; exact (Below.refl _ _).alloc (Nat.le_refl _) _
  have r0 : W0.heap[w.heap.size]? = some (.cells (cel (sIndexed x)) 46) := by rw [← hW0]; exact heap_new rfl
  have z0 : w.heap.size < W0.heap.size := by rw [← hW0]; simp
  obtain ⟨y, ey⟩ : ∃ y, w.heap.size = y := ⟨_, rfl⟩
  have hry : ∀ X, Below W0.heap.size W0 X → X.heap[y]? = some (.cells (cel (sIndexed x)) 46) := fun X h => by rw [← ey]; exact (h.block _ z0).trans r0
  have HL0 : Hid (∀ X, Below W0.heap.size W0 X → X.cell? ⟨y, 0, none⟩ = some (.slice x.a x.n x.c)) := fun X h => seg_sl (hry X h) 0 x.a x.n x.c rfl 0 rfl
  have HL1 : Hid (∀ X, Below W0.heap.size W0 X → (lvData ⟨y, 1, none⟩).run Tryz.prog X = .ok (.agg (cel (sData x.f1))) X) := fun X h => lvData_mid (hry X h) 1 rfl rfl
  have HB2 : Hid (∀ X, Below W0.heap.size W0 X → Bys X (some ⟨y, 101, none⟩) 96 96 x.f2) := fun X h => seg_bys (hry X h) 8 96 x.f2 rfl 101 rfl (by omega)
  have HNM : Hid (∀ X, Below W0.heap.size W0 X → Z.Nms .u64 X x.a x.n x.zs) := fun X h => hw.below (hB0.trans (h.mono hB0.size))
  have S0 := hid (Below.refl W0.heap.size W0)
  have HB0w := hid hB0
  have EY := hid ey
  have l0 := HL0.out _ (Below.refl _ _)
  obtain ⟨n, en⟩ : ∃ n, x.n = n := ⟨_, rfl⟩
  obtain ⟨zs, ez⟩ : ∃ zs, x.zs = zs := ⟨_, rfl⟩
  have n1 : ¬ (64 : Int) < (n : Int) := by omega
  have HN : Hid (n ≤ 64) := by rw [← en]; exact hn
  have HZ : Hid (∀ j, j < n → 0 ≤ zs j ∧ zs j < 18446744073709551616) := by have := hx.1; rw [en, ez] at this; exact this
  obtain ⟨V, eV⟩ : ∃ V, ct7 (eIndexed x) = V := ⟨_, rfl⟩
  have hFL : ∀ (P : World) gp gs a1 c1 a2 c2 a3 c3, P.heap[gp]? = some (.cells (([(a1, 8 * n, c1, nB zs), (a2, 128, c2, ct7 (eData x.f1)), (a3, 96, c3, x.f2)] : List Pt).map ptv).toArray 34) → P.heap[gs]? = some (.cells (vs .i64 3 zI) 3) → Bys P a1 (8 * n) c1 (nB zs) → Bys P a2 128 c2 (ct7 (eData x.f1)) → Bys P a3 96 c3 x.f2 → Calls Tryz.prog 31 #[.slice (some ⟨gp, 0, none⟩) 3 3, .slice (some ⟨gs, 0, none⟩) 3 3] P fun e w' => ∃ v, e = .returned (.tuple #[v, .int .i64 0]) ∧ w'.ownsRow P.heap.size 5 1 v (228 + 8 * n) (bl V (228 + 8 * n)) ∧ Below P.heap.size P w' := fun P gp gs a1 c1 a2 c2 a3 c3 h1 h2 h3 h4 h5 => by
    rw [← eV]
    unfold eIndexed
    rw [en, ez]
    exact rolayI (a1, 8 * n, c1, nB zs) (a2, 128, c2, ct7 (eData x.f1)) (a3, 96, c3, x.f2) gp gs P (by show 8 * n ≤ 512; omega) rfl rfl h1 h2 h3 h4 h5
  rw [eV]
  rw [en] at l0 HNM HL0 ⊢
  rw [ez] at HNM
  have HFL := hid hFL
  clear hB0 r0 hry hx hw hFL eV hn en ez
  go_enter Tryz.func45, Tryz.ntmps45
  go_upto_region 1 with fail
  clear hW0 ey z0
  go_upto_region 9 with fail
  clear l0 n1
  have n0 : (0 : Int) ≤ (n : Int) := by omega
  have n2 : (n : Int) ≤ 64 := by have := HN.out; omega
  go_loopw [5, 8] (fun v i wr => ∃ k : Nat, k ≤ n ∧ i = .int .i64 k ∧ wr.ownsRow W0.heap.size 5 1 v (8 * k) (bl (nB zs) (8 * k)) ∧ Below W0.heap.size W0 wr) (fun _ i _ => n - (intOf i).toNat)
  case atStart => exact ⟨0, by omega, rfl, World.ownsRow_nil _ _ _ _, Below.refl _ _⟩
  case round =>
    obtain ⟨k, hk, rfl, hown, hb⟩ := hrel
    have ld := HL0.out _ hb
    by_cases hlt : k < n
    · have bq : decide (k < n) = true := by simp; omega
      have k1 : (k : Int) < (n : Int) := by omega
      have k2 : (0 : Int) ≤ (k : Int) := by omega
      rcases HNM.out wr hb with h | ⟨b, off, ea, hb1, hc⟩
      · omega
      rw [ea] at ld
      have ck := hc k hlt
      have hzk := HZ.out k hlt
      have EJ := hid (bl_num zs k)
      obtain ⟨X, ex⟩ : ∃ X, zs k = X := ⟨_, rfl⟩
      rw [ex] at ck EJ hzk
      have HBY := hid (fun W => rnumber8 X W hzk.1 hzk.2)
      have hzz := hb.size
      have HO := hid hown
      have HB := hid hb
      clear hown hb hc ex hzk hb1 ea
      go_wp2_with (first
        | (go_at_call 88; refine (HBY.out wr).mono ?_; rintro e w3 ⟨v3, rfl, ho3, hb3⟩; have HB3 := hid hb3; have hz3 := hb3.size; obtain ⟨a3, c3, rfl, hr3⟩ := own_at ho3; have HR3 := hid hr3; clear hb3 ho3 hr3)
        | (at_builtin; refine wpList_append_bys w3 rfl _ _ rfl W0.heap.size _ (8 * k) (bl (nB zs) (8 * k)) rfl (ownsRow_below HO.out HB3.out) a3 8 c3 (nmB X) rfl HR3.out (by omega) (by omega) ?_; intro v4 w4 ho4 hg4))
      go_roundw
      case rel =>
        refine ⟨k + 1, by omega, by go_num, ?_, below_grown (HB.out.trans (HB3.out.mono hzz)) (ownsRow_below HO.out HB3.out) (by omega) hg4⟩
        rw [EJ.out] at ho4
        exact ho4
      case measure => simp [intOf]; omega
    · obtain rfl : k = n := by omega
      have bq : decide (k < k) = false := by simp
      obtain ⟨a1, c1, rfl, hr1⟩ := own_at hown
      have S1 := hid hb
      have R0 := hid (show ∀ X, Below wr.heap.size wr X → Bys X a1 (8 * k) c1 (nB zs) from fun X h => hr1.below h)
      have ld1 := HL1.out _ hb
      clear hown hb hk hlt hr1
      go_upto_region 17 with (go_at_call 30; refine (rencData_any x.f1 _ HX.out.2.1).mono ?_; rintro e X2 ⟨v2, rfl, ho2, hb2⟩)
      obtain ⟨a2, c2, rfl, hr2⟩ := own_at ho2
      have S2 := hid (S1.out.trans (hb2.mono S1.out.size))
      have K1 := hid (show Below wr.heap.size wr X2 from hb2)
      have R1 := hid (show ∀ X, Below X2.heap.size X2 X → Bys X a2 128 c2 (ct7 (eData x.f1)) from fun X h => hr2.below h)
      clear ho2 hb2 hr2 ld1 ld bq
      go_upto_region 18 with (at_builtin; refine wpList_append_bys _ rfl _ _ rfl X2.heap.size _ 0 [] rfl (World.ownsRow_made _ #[] 0 (Nat.le_refl _) (Nat.zero_le _) rfl) _ 96 96 x.f2 rfl (HB2.out _ (S2.out.alloc S2.out.size _)) (by omega) (by simp) ?_; intro v3 X3 ho3 hg3; rw [Nat.zero_add, List.nil_append] at ho3)
      have hb3 := below_grown ((Below.refl X2.heap.size X2).alloc (Nat.le_refl _) (.cells #[] 5)) (World.ownsRow_made _ #[] 0 (Nat.le_refl _) (Nat.zero_le _) rfl) (by simp) hg3
      obtain ⟨a3, c3, rfl, hr3⟩ := own_at ho3
      clear hg3 ho3
      have S3 := hid (S2.out.trans (hb3.mono S2.out.size))
      replace K1 := hid (K1.out.trans (hb3.mono K1.out.size))
      have K2 := hid (show Below X2.heap.size X2 X3 from hb3)
      have R2 := hid (show ∀ X, Below X3.heap.size X3 X → Bys X a3 96 c3 x.f2 from fun X h => hr3.below h)
      clear hb3 hr3
      obtain ⟨ps, eps⟩ : ∃ ps : List Pt, ([(a1, 8 * k, c1, nB zs), (a2, 128, c2, ct7 (eData x.f1)), (a3, 96, c3, x.f2)] : List Pt) = ps := ⟨_, rfl⟩
      obtain ⟨Y1, hY1⟩ : ∃ Y, X3.alloc (.cells (ps.map ptv).toArray 34) = Y := ⟨_, rfl⟩
      obtain ⟨Y2, hY2⟩ : ∃ Y, Y1.alloc (.cells (vs .i64 3 zI) 3) = Y := ⟨_, rfl⟩
      have hy1 : Below X3.heap.size X3 Y1 := by rw [← hY1]; exact (Below.refl _ _).alloc (Nat.le_refl _) _
      have hy2 : Below X3.heap.size X3 Y2 := by rw [← hY2]; exact hy1.alloc hy1.size _
      have g1 : Y2.heap[X3.heap.size]? = some (.cells (ps.map ptv).toArray 34) := by
        rw [← hY2, ← hY1]
        exact (heap_old (by simp)).trans (heap_new rfl)
      have g2 : Y2.heap[Y1.heap.size]? = some (.cells (vs .i64 3 zI) 3) := by rw [← hY2]; exact heap_new rfl
      have bs1 := bsP_3 X3 (a1, 8 * k, c1, nB zs) (a2, 128, c2, ct7 (eData x.f1)) (a3, 96, c3, x.f2)
      have bs2 := bsI_zI Y1
      have hla := HFL.out Y2 X3.heap.size Y1.heap.size a1 c1 a2 c2 a3 c3 (by rw [eps]; exact g1) g2 (R0.out _ (K1.out.trans (hy2.mono K1.out.size))) (R1.out _ (K2.out.trans (hy2.mono K2.out.size))) (R2.out _ hy2)
      rw [eps, hY1] at bs1
      rw [hY2] at bs2
      obtain ⟨u1, eu1⟩ : ∃ u, X3.heap.size = u := ⟨_, rfl⟩
      obtain ⟨u2, eu2⟩ : ∃ u, Y1.heap.size = u := ⟨_, rfl⟩
      rw [eu1] at bs1 hla
      rw [eu2] at bs2 hla
      replace bs1 : (bsP 3 #[(0, Value.slice a1 (8 * k) c1), (1, Value.slice a2 128 c2), (2, Value.slice a3 96 c3)]).run Tryz.prog X3 = .ok (.slice (some ⟨u1, 0, none⟩) 3 3) Y1 := bs1
      have HLA := hid hla
      have HY2 := hid hy2
      clear hla hy1 hy2 g1 g2 eps hY1 hY2 eu1 eu2
      go_wp2_with (go_at_call 31; refine HLA.out.mono ?_; rintro e Y ⟨v, rfl, ho, hbY⟩)
      go_ret2
      have e0 := EY.out
      have e1 := HB0w.out.size
      have e2 := S3.out.size
      have e3 := HY2.out.size
      exact ⟨v, rfl, (ho.mono (by omega) : _), HB0w.out.trans ((S3.out.mono (by omega)).trans ((HY2.out.mono (by omega)).trans (hbY.mono (by omega))))⟩

end Go.Proofs.YtokbhcgooboocaaGreatDoor
