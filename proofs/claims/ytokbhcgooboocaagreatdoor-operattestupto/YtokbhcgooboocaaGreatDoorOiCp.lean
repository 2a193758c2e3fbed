/-
  Indexed: what the reference's Root answers.
-/
import Derived.Test.YtokbhcgooboocaaGreatDoorOiBp
namespace Go.Proofs.YtokbhcgooboocaaGreatDoor
open Go.RowKit
set_option linter.unusedVariables false
set_option linter.unusedSimpArgs false
set_option maxRecDepth 20000

theorem rts_le {w : World} {a : Option Addr} {len cap : Nat} {f : Nat → Int} (h : Rts w a len cap f) : len ≤ cap := by
  rcases h with ⟨_, h1, h2⟩ | ⟨_, _, h1⟩ | ⟨_, _, _, h1, _⟩
  · omega
  · omega
  · exact h1

attribute [local go_sem ↓] sv24_eq lv24_eq ix22_eq slr_eq bd27_eq bs22_eq lvData_eq

set_option maxHeartbeats 2000000 in
theorem rrootIndexed_long (x : VIndexed) (w : World) (hn : 64 < x.n) :
    Calls Tryz.prog 46 #[.agg (cel (sIndexed x))] w fun e w' => e = .returned (.tuple #[.agg (vs .u8 32 fun _ => 0), .int .i64 6]) ∧ Below w.heap.size w w' := by
  have z := zero_root
  have zc : ∀ W : World, (zeroValue 68).run Tryz.prog W = .ok (.agg (vs .u8 96 (fl7 [fun _ => 0, fun _ => 0, fun _ => 0]))) W := (zero_of_info (n := 96) (by kernel_rfl)).1
  obtain ⟨y, ey⟩ : ∃ y, w.heap.size = y := ⟨_, rfl⟩
  obtain ⟨W1, hW1⟩ : ∃ W, w.alloc (.cells (cel (sIndexed x)) 46) = W := ⟨_, rfl⟩
  obtain ⟨W2, hW2⟩ : ∃ W, W1.alloc (.cells (vs .u8 32 fun _ => 0) 25) = W := ⟨_, rfl⟩
  obtain ⟨V0, hV0⟩ : ∃ W, W2.alloc (.cells (vs .u8 96 (fl7 [fun _ => 0, fun _ => 0, fun _ => 0])) 68) = W := ⟨_, rfl⟩
  have z1 : W1.heap.size = y + 1 := by rw [← hW1, ← ey]; simp
  have z2 : W2.heap.size = y + 2 := by rw [← hW2]; simp [z1]
  have z3 : V0.heap.size = y + 3 := by rw [← hV0]; simp [z2]
  have hB0 : Below w.heap.size w V0 := by rw [← hV0, ← hW2, ← hW1]; exact (((Below.refl _ _).alloc (Nat.le_refl _) _).alloc (by simp) _).alloc (by simp; omega) _
  have r1 : V0.heap[y]? = some (.cells (cel (sIndexed x)) 46) := by rw [← hV0]; refine (heap_old (by omega)).trans ?_; rw [← hW2]; refine (heap_old (by omega)).trans ?_; rw [← hW1]; exact heap_new ey.symm
  have r2 : V0.heap[y + 1]? = some (.cells (vs .u8 32 fun _ => 0) 25) := by rw [← hV0]; refine (heap_old (by omega)).trans ?_; rw [← hW2]; exact heap_new z1.symm
  have r3 : V0.heap[y + 2]? = some (.cells (vs .u8 (32 * 3) (fl7 [fun _ => 0, fun _ => 0, fun _ => 0])) 68) := by rw [← hV0]; exact heap_new z2.symm
  have hry : ∀ X, Below (y + 2) V0 X → X.heap[y]? = some (.cells (cel (sIndexed x)) 46) := fun X h => (h.block _ (by omega)).trans r1
  have hrr : ∀ X, Below (y + 2) V0 X → X.heap[y + 1]? = some (.cells (vs .u8 32 fun _ => 0) 25) := fun X h => (h.block _ (by omega)).trans r2
  have l0 : V0.cell? ⟨y, 0, none⟩ = some (.slice x.a x.n x.c) := seg_sl r1 0 x.a x.n x.c rfl 0 rfl
  have n1 : (64 : Int) < (x.n : Int) := by omega
  obtain ⟨N, eN⟩ : ∃ N, x.n = N := ⟨_, rfl⟩
  rw [eN] at l0 n1
  have rr := hrr V0 (Below.refl _ _)
  have sv := sv24_run rr (fun _ => 0)
  have bb := bd27_0
  have RR := hid rr
  have HB0 := hid hB0
  have EY := hid ey
  clear hrr hry r1 r2 r3 hB0 hn eN rr z3
  go_enter Tryz.func46, Tryz.ntmps46
  go_upto_region 3 with fail
  clear hW1 hW2 hV0 z1 z2 ey z zc
  go_wp2
  refine ret24s _ _ (y + 1) _ 25 _ rfl rfl rfl rfl (setRow_at RR.out) ⟨rfl, ?_⟩
  have e0 := EY.out
  exact below_row HB0.out (by omega) _

set_option maxRecDepth 20000 in
set_option maxHeartbeats 2000000 in
theorem rrootIndexed_ok (x : VIndexed) (w : World) (hx : OkIndexed x) (hn : x.n ≤ 64) (hw : Z.Nms .u64 w x.a x.n x.zs) (hC : Rc w) :
    Calls Tryz.prog 46 #[.agg (cel (sIndexed x))] w fun e w' => e = .returned (.tuple #[.agg (vs .u8 32 (hIndexed x)), .int .i64 0]) ∧ Below w.heap.size w w' := by
  have z := zero_root
  have zc : ∀ W : World, (zeroValue 68).run Tryz.prog W = .ok (.agg (vs .u8 96 (fl7 [fun _ => 0, fun _ => 0, fun _ => 0]))) W := (zero_of_info (n := 96) (by kernel_rfl)).1
  obtain ⟨y, ey⟩ : ∃ y, w.heap.size = y := ⟨_, rfl⟩
  obtain ⟨W1, hW1⟩ : ∃ W, w.alloc (.cells (cel (sIndexed x)) 46) = W := ⟨_, rfl⟩
  obtain ⟨W2, hW2⟩ : ∃ W, W1.alloc (.cells (vs .u8 32 fun _ => 0) 25) = W := ⟨_, rfl⟩
  obtain ⟨V0, hV0⟩ : ∃ W, W2.alloc (.cells (vs .u8 96 (fl7 [fun _ => 0, fun _ => 0, fun _ => 0])) 68) = W := ⟨_, rfl⟩
  have z1 : W1.heap.size = y + 1 := by rw [← hW1, ← ey]; simp
  have z2 : W2.heap.size = y + 2 := by rw [← hW2]; simp [z1]
  have z3 : V0.heap.size = y + 3 := by rw [← hV0]; simp [z2]
  have hB0 : Below w.heap.size w V0 := by rw [← hV0, ← hW2, ← hW1]; exact (((Below.refl _ _).alloc (Nat.le_refl _) _).alloc (by simp) _).alloc (by simp; omega) _
  have r1 : V0.heap[y]? = some (.cells (cel (sIndexed x)) 46) := by rw [← hV0]; refine (heap_old (by omega)).trans ?_; rw [← hW2]; refine (heap_old (by omega)).trans ?_; rw [← hW1]; exact heap_new ey.symm
  have r2 : V0.heap[y + 1]? = some (.cells (vs .u8 32 fun _ => 0) 25) := by rw [← hV0]; refine (heap_old (by omega)).trans ?_; rw [← hW2]; exact heap_new z1.symm
  have r3 : V0.heap[y + 2]? = some (.cells (vs .u8 (32 * 3) (fl7 [fun _ => 0, fun _ => 0, fun _ => 0])) 68) := by rw [← hV0]; exact heap_new z2.symm
  have hry : ∀ X, Below (y + 2) V0 X → X.heap[y]? = some (.cells (cel (sIndexed x)) 46) := fun X h => (h.block _ (by omega)).trans r1
  have hrr : ∀ X, Below (y + 2) V0 X → X.heap[y + 1]? = some (.cells (vs .u8 32 fun _ => 0) 25) := fun X h => (h.block _ (by omega)).trans r2
  have hRc : ∀ X, Below (y + 2) V0 X → Rc X := fun X h => hC.below (hB0.trans (h.mono (by omega)))
  have HL0 : Hid (∀ X, Below (y + 2) V0 X → X.cell? ⟨y, 0, none⟩ = some (.slice x.a x.n x.c)) := fun X h => seg_sl (hry X h) 0 x.a x.n x.c rfl 0 rfl
  have HNM : Hid (∀ X, Below (y + 2) V0 X → Z.Nms .u64 X x.a x.n x.zs) := fun X h => hw.below (hB0.trans (h.mono (by omega)))
  have hk0 : ∀ X a c, Below (y + 2) V0 X → Bys X a (8 * x.n) c (nB x.zs) → Calls Tryz.prog 34 #[.slice a (8 * x.n) c] X fun e w' => ∃ a' cap', e = .returned (.slice a' (cks (8 * x.n)) cap') ∧ Below X.heap.size X w' ∧ Rts w' a' (cks (8 * x.n)) cap' (pk (nB x.zs) (8 * x.n)) := fun X a c h hb => rpack_any a (8 * x.n) c (nB x.zs) X hb (by omega)
  have hm0 : ∀ X a c, Below (y + 2) V0 X → Rts X a (cks (8 * x.n)) c (pk (nB x.zs) (8 * x.n)) → Calls Tryz.prog 33 #[.slice a (cks (8 * x.n)) c, .int .i64 16] X fun e w' => e = .returned (.agg (vs .u8 32 (treeV (pk (nB x.zs) (8 * x.n)) (cks (8 * x.n)) (16 : Nat)))) ∧ Below X.heap.size X w' := fun X a c h hr => must7 a (cks (8 * x.n)) c (pk (nB x.zs) (8 * x.n)) (16 : Nat) X (hRc X h) hr (rts_le hr) (pk_bd (fun j _ => nB_bd _ j) _) (by decide) (by decide) (by unfold cks; omega)
  have hc0 : ∀ X, Below (y + 2) V0 X → Calls Tryz.prog 32 #[.agg (vs .u8 32 (treeV (pk (nB x.zs) (8 * x.n)) (cks (8 * x.n)) (16 : Nat))), .int .u64 x.n] X fun e w' => e = .returned (.agg (vs .u8 32 (lR (nB x.zs) (8 * x.n) 16 x.n))) ∧ Below X.heap.size X w' := fun X h => rmix_any _ (x.n : Int) X (hRc X h) (fun j hj => treeV_bd (pk_bd (fun j _ => nB_bd _ j) _) _ j hj) (by omega) (by omega)
  have hd0 : ∀ j, j < 32 → 0 ≤ (lR (nB x.zs) (8 * x.n) 16 x.n) j ∧ (lR (nB x.zs) (8 * x.n) 16 x.n) j < 256 := fun j hj => lR_bd _ _ (fun j _ => nB_bd _ j) j hj
  have HL1 : Hid (∀ X, Below (y + 2) V0 X → (lvData ⟨y, 1, none⟩).run Tryz.prog X = .ok (.agg (cel (sData x.f1))) X) := fun X h => lvData_mid (hry X h) 1 rfl rfl
  have hc1 : ∀ X, Below (y + 2) V0 X → Calls Tryz.prog 36 #[.agg (cel (sData x.f1))] X fun e w' => e = .returned (.tuple #[.agg (vs .u8 32 (hData x.f1)), .int .i64 0]) ∧ Below X.heap.size X w' := fun X h => rrootData_any x.f1 X hx.2.1 (hRc X h)
  have hd1 : ∀ j, j < 32 → 0 ≤ (hData x.f1) j ∧ (hData x.f1) j < 256 := fun j hj => hData_bd hx.2.1 j hj
  have hk2 : ∀ X, Below (y + 2) V0 X → Calls Tryz.prog 34 #[.slice (some ⟨y, 101, none⟩) 96 96] X fun e w' => ∃ a' cap', e = .returned (.slice a' 3 cap') ∧ Below X.heap.size X w' ∧ Rts w' a' 3 cap' (pk x.f2 96) := fun X h => rpack_any _ 96 96 x.f2 X (seg_bys (hry X h) 8 96 x.f2 rfl 101 rfl (by omega)) (by omega)
  have hc2 : ∀ X a c, Below (y + 2) V0 X → Rts X a 3 c (pk x.f2 96) → Calls Tryz.prog 33 #[.slice a 3 c, .int .i64 3] X fun e w' => e = .returned (.agg (vs .u8 32 (bR x.f2 96))) ∧ Below X.heap.size X w' := fun X a c h hr => must7 a 3 c (pk x.f2 96) 3 X (hRc X h) hr (rts_cap hr (by omega)) (pk_bd hx.2.2 _) (by decide) (by decide) (by decide)
  have hd2 : ∀ j, j < 32 → 0 ≤ (bR x.f2 96) j ∧ (bR x.f2 96) j < 256 := fun j hj => treeV_bd (pk_bd hx.2.2 _) _ j hj
  have eh : ∀ j, j < 32 → treeV (fl7 [lR (nB x.zs) (8 * x.n) 16 x.n, hData x.f1, bR x.f2 96]) 3 (3 : Nat) j = hIndexed x j := fun j hj => treeV_congr (fun q hq => by
    unfold fl7
    have hq5 := Nat.mod_lt q (show 0 < 32 by omega)
    rcases (by omega : q / 32 = 0 ∨ q / 32 = 1 ∨ q / 32 = 2) with e | e | e
    · first | (rw [e]; done) | (rw [e]; rfl)
    · first | (rw [e]; done) | (rw [e]; rfl)
    · first | (rw [e]; done) | (rw [e]; rfl)
    ) _ j hj
  obtain ⟨C0, eC0⟩ : ∃ C, lR (nB x.zs) (8 * x.n) 16 x.n = C := ⟨_, rfl⟩
  rw [eC0] at hd0 hc0
  simp only [eC0] at eh
  have HC0 := hid hc0
  have HK0 := hid hk0
  have HM0 := hid hm0
  obtain ⟨n, en⟩ : ∃ n, x.n = n := ⟨_, rfl⟩
  obtain ⟨zs, ez⟩ : ∃ zs, x.zs = zs := ⟨_, rfl⟩
  rw [en] at HL0 HNM HC0 HK0 HM0 hn
  rw [ez] at HNM HC0 HK0 HM0
  obtain ⟨Q, eQ⟩ : ∃ Q, treeV (pk (nB zs) (8 * n)) (cks (8 * n)) (16 : Nat) = Q := ⟨_, rfl⟩
  obtain ⟨ck, eck⟩ : ∃ c, cks (8 * n) = c := ⟨_, rfl⟩
  rw [eQ] at HC0 HM0
  rw [eck] at HK0 HM0
  have HZ : Hid (∀ j, j < n → 0 ≤ zs j ∧ zs j < 18446744073709551616) := by have := hx.1; rw [en, ez] at this; exact this
  have HN := hid hn
  have n1 : ¬ (64 : Int) < (n : Int) := by omega
  have n0 : (0 : Int) ≤ (n : Int) := by omega
  have n2 : (n : Int) ≤ 64 := by omega
  have wr : IntKind.u64.wrap (n : Int) = (n : Int) := by rw [IntKind.wrap_u64]; omega
  obtain ⟨C1, eC1⟩ : ∃ C, hData x.f1 = C := ⟨_, rfl⟩
  rw [eC1] at hd1 hc1
  simp only [eC1] at eh
  have HC1 := hid hc1
  obtain ⟨C2, eC2⟩ : ∃ C, bR x.f2 96 = C := ⟨_, rfl⟩
  rw [eC2] at hd2 hc2
  simp only [eC2] at eh
  have HC2 := hid hc2
  have HK2 := hid hk2
  have hmu : ∀ X, Below (y + 2) V0 X → X.heap[y + 2]? = some (.cells (vs .u8 (32 * 3) (fl7 [C0, C1, C2])) 68) → Calls Tryz.prog 33 #[.slice (some ⟨y + 2, 0, none⟩) 3 3, .int .i64 3] X fun e w' => e = .returned (.agg (vs .u8 32 (hIndexed x))) ∧ Below X.heap.size X w' := fun X h h2 => by
    have := must7 (some ⟨y + 2, 0, none⟩) 3 3 (fl7 [C0, C1, C2]) (3 : Nat) X (hRc X h) (rts_row h2) (by omega) (fl7_bd (fun c hc => by
      simp only [List.mem_cons, List.not_mem_nil, or_false] at hc
      rcases hc with rfl | rfl | rfl
      · exact hd0
      · exact hd1
      · exact hd2
      ) _) (by decide) (by decide) (by decide)
    rw [vs_congr (fun j hj => eh j hj)] at this
    exact this
  obtain ⟨D, eD⟩ : ∃ D, hIndexed x = D := ⟨_, rfl⟩
  rw [eD] at hmu ⊢
  obtain ⟨u, eu⟩ : ∃ u, y + 2 = u := ⟨_, rfl⟩
  rw [eu] at hmu
  have HU := hid eu
  have HMU := hid hmu
  have HRR := hid hrr
  have HB0w := hid hB0
  have EY := hid ey
  have Z3 := hid z3
  have HX := hid hx
  have RV0 := hid r3
  have SV0 := hid (Below.refl (y + 2) V0)
  rw [eu] at RV0
  clear hmu hrr hB0 z3 r1 r2 r3 hry hRc hx hC eh eD hd0 eC0 hc0 hd1 eC1 hc1 hd2 eC2 hc2 hk2 hk0 hm0 hw hn en ez eQ eck
  go_enter Tryz.func46, Tryz.ntmps46
  go_upto_region 3 with fail
  clear hW1 hW2 hV0 z1 z2 ey z zc
  try rw [eu]
  clear eu
  have ld := HL0.out _ SV0.out
  go_upto_region 7 with fail
  clear ld n1
  go_loopw [6, 7] (fun v i wr => ∃ k : Nat, k ≤ n ∧ i = .int .i64 k ∧ wr.ownsRow V0.heap.size 5 1 v (8 * k) (bl (nB zs) (8 * k)) ∧ Below V0.heap.size V0 wr) (fun _ i _ => n - (intOf i).toNat)
  case atStart => exact ⟨0, by omega, rfl, World.ownsRow_nil _ _ _ _, Below.refl _ _⟩
  case round =>
    obtain ⟨k, hk, rfl, hown, hb⟩ := hrel
    have hb2 := hb.mono (show y + 2 ≤ V0.heap.size by have := Z3.out; omega)
    have ld := HL0.out _ hb2
    by_cases hlt : k < n
    · have bq : decide (k < n) = true := by simp; omega
      have k1 : (k : Int) < (n : Int) := by omega
      have k2 : (0 : Int) ≤ (k : Int) := by omega
      rcases HNM.out wr hb2 with h | ⟨b, off, ea, hb1, hc⟩
      · omega
      rw [ea] at ld
      have ck' := hc k hlt
      have hzk := HZ.out k hlt
      have EJ := hid (bl_num zs k)
      obtain ⟨X, ex⟩ : ∃ X, zs k = X := ⟨_, rfl⟩
      rw [ex] at ck' EJ hzk
      have HBY := hid (fun W => rnumber8 X W hzk.1 hzk.2)
      have hzz := hb.size
      have HO := hid hown
      have HB := hid hb
      clear hown hb hc ex hzk hb1 hb2 ea
      go_wp2_with (first
        | (go_at_call 88; refine (HBY.out wr).mono ?_; rintro e w3 ⟨v3, rfl, ho3, hb3⟩; have HB3 := hid hb3; have hz3 := hb3.size; obtain ⟨a3, c3, rfl, hr3⟩ := own_at ho3; have HR3 := hid hr3; clear hb3 ho3 hr3)
        | (at_builtin; refine wpList_append_bys w3 rfl _ _ rfl V0.heap.size _ (8 * k) (bl (nB zs) (8 * k)) rfl (ownsRow_below HO.out HB3.out) a3 8 c3 (nmB X) rfl HR3.out (by omega) (by omega) ?_; intro v4 w4 ho4 hg4; have HB4 := hid (below_grown (HB.out.trans (HB3.out.mono hzz)) (ownsRow_below HO.out HB3.out) (by omega) hg4); have HO4 := hid ho4; clear ho4 hg4))
      go_roundw
      case rel =>
        refine ⟨k + 1, by omega, by go_num, ?_, HB4.out⟩
        have ho4 := HO4.out
        rw [EJ.out] at ho4
        exact ho4
      case measure => simp [intOf]; omega
    · obtain rfl : k = n := by omega
      have bq : decide (k < k) = false := by simp
      obtain ⟨a1, c1, rfl, hr1⟩ := own_at hown
      have SVw := hid hb2
      have RVw := hid ((hb.block u (Array.getElem?_eq_some_iff.1 RV0.out).1).trans RV0.out)
      have HPK := hid (HK0.out _ _ _ SVw.out hr1)
      clear hown hb hk hlt hr1 hb2
      go_upto_region 11 with (first
        | (go_at_call 34; refine HPK.out.mono ?_; rintro e Y ⟨a, c, rfl, hb, hr⟩; have SY := hid (SVw.out.trans (hb.mono (by have h1 := HU.out; have h2 := Z3.out; have h3 := SVw.out.size; omega))); have RY := hid ((hb.block _ (Array.getElem?_eq_some_iff.1 RVw.out).1).trans RVw.out); have CY := hid (HM0.out _ _ _ SY.out hr); clear hr hb)
        | (go_at_call 33; refine CY.out.mono ?_; rintro e X9 ⟨rfl, hb⟩; have sb := SY.out.trans (hb.mono (by have h1 := HU.out; have h2 := Z3.out; have h3 := SY.out.size; omega)); have rb := (hb.block _ (Array.getElem?_eq_some_iff.1 RY.out).1).trans RY.out; obtain ⟨sv, nr, nb⟩ := put7 (l := [fun _ => 0, fun _ => 0, fun _ => 0]) (n := 3) sb (by rw [← HU.out]; exact Nat.le_refl _) rb 0 Q (by omega) rfl; have NR := hid nr; have NB := hid nb; clear nr nb sb rb hb))
      clear CY ld bq
      obtain ⟨V9, hV⟩ : ∃ V, X9.setCells u 0 (bl Q 32) = V := ⟨_, rfl⟩
      have RV9 : Hid (V9.heap[u]? = some (.cells (vs .u8 (32 * 3) (fl7 [Q, fun _ => 0, fun _ => 0])) 68)) := by rw [← hV]; exact NR.out
      have SV9 : Hid (Below (y + 2) V0 V9) := by rw [← hV]; exact NB.out
      rw [hV]
      clear hV NR NB sv
      have ld := HL0.out _ SV9.out
      have lq : (lv24 ⟨u, 0, none⟩).run Tryz.prog V9 = .ok (.agg (vs .u8 32 Q)) V9 := lv24_mid (fun j hj => by
        rw [Nat.zero_add]
        refine (row_int RV9.out j (by omega)).trans (congrArg (fun z => some (Value.int .u8 z)) ?_)
        unfold fl7
        rw [show j / 32 = 0 by omega, show j % 32 = j by omega]
        rfl)
      go_upto_region 12 with (go_at_call 32; refine (HC0.out _ SV9.out).mono ?_; rintro e X0 ⟨rfl, hb⟩; have sb := SV9.out.trans (hb.mono (by have h1 := HU.out; have h2 := Z3.out; have h3 := SV9.out.size; omega)); have rb := (hb.block _ (Array.getElem?_eq_some_iff.1 RV9.out).1).trans RV9.out; obtain ⟨sv, nr, nb⟩ := put7 (l := [Q, fun _ => 0, fun _ => 0]) (n := 3) sb (by rw [← HU.out]; exact Nat.le_refl _) rb 0 C0 (by omega) rfl; have NR := hid nr; have NB := hid nb; clear nr nb sb rb hb)
      clear ld lq
      obtain ⟨V1, hV⟩ : ∃ V, X0.setCells u 0 (bl C0 32) = V := ⟨_, rfl⟩
      have RV1 : Hid (V1.heap[u]? = some (.cells (vs .u8 (32 * 3) (fl7 [C0, fun _ => 0, fun _ => 0])) 68)) := by rw [← hV]; exact NR.out
      have SV1 : Hid (Below (y + 2) V0 V1) := by rw [← hV]; exact NB.out
      rw [hV]
      clear hV NR NB sv
      have ld := HL1.out _ SV1.out
      go_upto_region 15 with (go_at_call 36; refine (HC1.out _ SV1.out).mono ?_; rintro e X1 ⟨rfl, hb⟩; have sb := SV1.out.trans (hb.mono (by have h1 := HU.out; have h2 := Z3.out; have h3 := SV1.out.size; omega)); have rb := (hb.block _ (Array.getElem?_eq_some_iff.1 RV1.out).1).trans RV1.out; obtain ⟨sv, nr, nb⟩ := put7 (l := [C0, fun _ => 0, fun _ => 0]) (n := 3) sb (by rw [← HU.out]; exact Nat.le_refl _) rb 1 C1 (by omega) rfl; have NR := hid nr; have NB := hid nb; clear nr nb sb rb hb)
      clear ld
      obtain ⟨V2, hV⟩ : ∃ V, X1.setCells u 32 (bl C1 32) = V := ⟨_, rfl⟩
      have RV2 : Hid (V2.heap[u]? = some (.cells (vs .u8 (32 * 3) (fl7 [C0, C1, fun _ => 0])) 68)) := by rw [← hV]; exact NR.out
      have SV2 : Hid (Below (y + 2) V0 V2) := by rw [← hV]; exact NB.out
      rw [hV]
      clear hV NR NB sv
      go_upto_region 16 with (first
        | (go_at_call 34; refine (HK2.out _ SV2.out).mono ?_; rintro e Y ⟨a, c, rfl, hb, hr⟩; have SY := hid (SV2.out.trans (hb.mono (by have h1 := HU.out; have h2 := Z3.out; have h3 := SV2.out.size; omega))); have RY := hid ((hb.block _ (Array.getElem?_eq_some_iff.1 RV2.out).1).trans RV2.out); have CY := hid (HC2.out _ _ _ SY.out hr); clear hr hb)
        | (go_at_call 33; refine CY.out.mono ?_; rintro e X2 ⟨rfl, hb⟩; have sb := SY.out.trans (hb.mono (by have h1 := HU.out; have h2 := Z3.out; have h3 := SY.out.size; omega)); have rb := (hb.block _ (Array.getElem?_eq_some_iff.1 RY.out).1).trans RY.out; obtain ⟨sv, nr, nb⟩ := put7 (l := [C0, C1, fun _ => 0]) (n := 3) sb (by rw [← HU.out]; exact Nat.le_refl _) rb 2 C2 (by omega) rfl; have NR := hid nr; have NB := hid nb; clear nr nb sb rb hb))
      clear CY
      obtain ⟨V3, hV⟩ : ∃ V, X2.setCells u 64 (bl C2 32) = V := ⟨_, rfl⟩
      have RV3 : Hid (V3.heap[u]? = some (.cells (vs .u8 (32 * 3) (fl7 [C0, C1, C2])) 68)) := by rw [← hV]; exact NR.out
      have SV3 : Hid (Below (y + 2) V0 V3) := by rw [← hV]; exact NB.out
      rw [hV]
      clear hV NR NB sv
      have HM := hid (HMU.out _ (by have := SV3.out; rw [HU.out] at this; exact this) RV3.out)
      go_wp2_with (go_at_call 33; refine HM.out.mono ?_; rintro e Y ⟨rfl, hb⟩; have sy := SV3.out.trans (hb.mono (by have h1 := HU.out; have h2 := Z3.out; have h3 := SV3.out.size; omega)); have rY := HRR.out _ sy; have s1 := sv24_run rY D; have RY := hid rY; have SY := hid sy; clear rY sy hb)
      refine ret24s _ _ (y + 1) _ 25 _ rfl rfl rfl rfl (setRow_at RY.out) ⟨rfl, ?_⟩
      have e0 := EY.out
      exact below_row (HB0w.out.trans (SY.out.mono (by omega))) (by omega) _

end Go.Proofs.YtokbhcgooboocaaGreatDoor
