/-
  What ssz.Many answers where it refuses.
-/
import Derived.Test.YtfhplpcbaoefeaaSzM
namespace Go.Proofs.Ytfhplpcbaoefeaa
open Go.RowKit
set_option linter.unusedVariables false
set_option linter.unusedSimpArgs false

attribute [local go_sem ↓] sl22_eq

set_option maxRecDepth 20000 in
set_option maxHeartbeats 1000000 in
theorem many_arg (m : Nat → Int) (ao : Option Addr) (len cap : Nat) (most : Int) (w : World) (h : most < 0) :
    Calls Try.prog 8 #[.slice ao len cap, .int .i64 most] w fun e w' => e = .returned (.tuple #[.slice none 0 0, .int .i64 1]) ∧ Below w.heap.size w w' := by
  go_enter Try.func8, Try.ntmps8
  go_wp2
  refine wp_scope_jumps 0 (fun a' w' => RefC (.slice ao len cap) (.int .i64 most) 1 a' ∧ Below w.heap.size w w') (fun _ _ => 0) rfl ?_ ?_
  · have HBL := hid (Below.refl w.heap.size w)
    go_wp2
    go_step3
    exact ⟨rfl, ⟨_, _, _, _, _, _, _, _, _, _, _, _, _, _, _, _, _, _, _, _, _, _, _, _, _, _, _, _, _, _, _, _, _, _, _, _, _, _, _, _, _, _, _, _, _, rfl⟩, HBL.out⟩
  · rintro a' w' ⟨⟨u6, u7, u9, u10, u11, u12, u13, u14, u15, u16, u17, u18, u19, u20, u21, u22, u23, u24, u25, u26, u27, u28, u29, u30, u31, u32, u33, u34, u35, u36, u37, u38, u39, u40, u41, u42, u43, u44, u45, u46, u47, u48, u49, u50, u51, rfl⟩, hbe⟩
    have HBE := hid hbe
    clear hbe
    go_wp2
    simp only [Exit.jump]
    go_ret2
    exact ⟨rfl, HBE.out⟩

set_option maxRecDepth 20000 in
set_option maxHeartbeats 1000000 in
theorem many_none (m : Nat → Int) (ao : Option Addr) (len cap : Nat) (most : Int) (w : World) (h : 0 ≤ most) (hl : len = 0) :
    Calls Try.prog 8 #[.slice ao len cap, .int .i64 most] w fun e w' => e = .returned (.tuple #[.slice none 0 0, .int .i64 0]) ∧ Below w.heap.size w w' := by
  have h1 : ¬ most < 0 := by omega
  subst hl
  go_enter Try.func8, Try.ntmps8
  go_wp2
  refine wp_scope_jumps 0 (fun _ _ => False) (fun _ _ => 0) rfl ?_ (fun _ _ h => h.elim)
  go_wp2
  simp only [Exit.jump]
  go_ret2
  exact ⟨rfl, Below.refl _ _⟩

set_option maxRecDepth 20000 in
set_option maxHeartbeats 1000000 in
theorem many_short (m : Nat → Int) (ao : Option Addr) (len cap : Nat) (most : Int) (w : World) (h : 0 ≤ most) (hl : 0 < len) (hl4 : len < 4) :
    Calls Try.prog 8 #[.slice ao len cap, .int .i64 most] w fun e w' => e = .returned (.tuple #[.slice none 0 0, .int .i64 4]) ∧ Below w.heap.size w w' := by
  have h1 : ¬ most < 0 := by omega
  have h2 : ¬ (len : Int) = 0 := by omega
  have h3 : (len : Int) < 4 := by omega
  go_enter Try.func8, Try.ntmps8
  go_wp2
  refine wp_scope_jumps 0 (fun a' w' => RefC (.slice ao len cap) (.int .i64 most) 4 a' ∧ Below w.heap.size w w') (fun _ _ => 0) rfl ?_ ?_
  · have HBL := hid (Below.refl w.heap.size w)
    go_wp2
    go_step3
    exact ⟨rfl, ⟨_, _, _, _, _, _, _, _, _, _, _, _, _, _, _, _, _, _, _, _, _, _, _, _, _, _, _, _, _, _, _, _, _, _, _, _, _, _, _, _, _, _, _, _, _, rfl⟩, HBL.out⟩
  · rintro a' w' ⟨⟨u6, u7, u9, u10, u11, u12, u13, u14, u15, u16, u17, u18, u19, u20, u21, u22, u23, u24, u25, u26, u27, u28, u29, u30, u31, u32, u33, u34, u35, u36, u37, u38, u39, u40, u41, u42, u43, u44, u45, u46, u47, u48, u49, u50, u51, rfl⟩, hbe⟩
    have HBE := hid hbe
    clear hbe
    go_wp2
    simp only [Exit.jump]
    go_ret2
    exact ⟨rfl, HBE.out⟩

set_option maxRecDepth 20000 in
set_option maxHeartbeats 1000000 in
theorem many_zero (m : Nat → Int) (ao : Option Addr) (len cap : Nat) (most : Int) (w : World) (hb : Bys w ao len cap m) (hm : ∀ j, j < len → 0 ≤ m j ∧ m j < 256) (hlen : len ≤ 140737488351232) (hlc : len ≤ cap) (hcap : cap ≤ 9223372036854775807) (hmo0 : 0 ≤ most) (hmo1 : most ≤ 9223372036854775807) (h4 : 4 ≤ len) (F : Nat) (hF : o4 m 0 = (F : Int)) (hz : F = 0) :
    Calls Try.prog 8 #[.slice ao len cap, .int .i64 most] w fun e w' => e = .returned (.tuple #[.slice none 0 0, .int .i64 5]) ∧ Below w.heap.size w w' := by
  have ho4 := o4_bd m 0 (fun j _ h => hm j (by omega))
  obtain ⟨b1, o1, hA1, hq1, hq2, hq3, hq4⟩ := bys_pos hb (by omega)
  have hro := readoff_any m b1 o1 len cap w (fun j hj => hq4 j (by omega)) (fun j hj => hm _ (by omega)) (by omega) hq3
  rw [hF] at hro
  have g1 : (F : Int) < 4294967296 := by omega
  have f6 : ¬ most < 0 := by omega
  have f7 : (0 : Int) ≤ most := by omega
  have f8 : (4 : Int) ≤ (len : Int) := by omega
  have f9 : (len : Int) ≤ 140737488351232 := by omega
  have f10 : ¬ (len : Int) = 0 := by omega
  have f11 : ¬ (len : Int) < 4 := by omega
  have HRO := hid hro
  subst hA1
  clear hb hm hq1 hq2 hq3 hq4 hro ho4 hF g1
  subst hz
  go_enter Try.func8, Try.ntmps8
  go_wp2
  refine wp_scope_jumps 0 (fun a' w' => RefC (.slice (some ⟨b1, o1, none⟩) len cap) (.int .i64 most) 5 a' ∧ Below w.heap.size w w') (fun _ _ => 0) rfl ?_ ?_
  · go_wp2_with (go_at_call 14; refine HRO.out.mono ?_; rintro e w1 ⟨rfl, hb1⟩; have HBL := hid hb1; clear hb1)
    go_step3
    exact ⟨rfl, ⟨_, _, _, _, _, _, _, _, _, _, _, _, _, _, _, _, _, _, _, _, _, _, _, _, _, _, _, _, _, _, _, _, _, _, _, _, _, _, _, _, _, _, _, _, _, rfl⟩, HBL.out⟩
  · rintro a' w' ⟨⟨u6, u7, u9, u10, u11, u12, u13, u14, u15, u16, u17, u18, u19, u20, u21, u22, u23, u24, u25, u26, u27, u28, u29, u30, u31, u32, u33, u34, u35, u36, u37, u38, u39, u40, u41, u42, u43, u44, u45, u46, u47, u48, u49, u50, u51, rfl⟩, hbe⟩
    have HBE := hid hbe
    clear hbe
    go_wp2
    simp only [Exit.jump]
    go_ret2
    exact ⟨rfl, HBE.out⟩

set_option maxRecDepth 20000 in
set_option maxHeartbeats 1000000 in
theorem many_odd (m : Nat → Int) (ao : Option Addr) (len cap : Nat) (most : Int) (w : World) (hb : Bys w ao len cap m) (hm : ∀ j, j < len → 0 ≤ m j ∧ m j < 256) (hlen : len ≤ 140737488351232) (hlc : len ≤ cap) (hcap : cap ≤ 9223372036854775807) (hmo0 : 0 ≤ most) (hmo1 : most ≤ 9223372036854775807) (h4 : 4 ≤ len) (F : Nat) (hF : o4 m 0 = (F : Int)) (hz : ¬ F = 0) (hq : ¬ F % 4 = 0) :
    Calls Try.prog 8 #[.slice ao len cap, .int .i64 most] w fun e w' => e = .returned (.tuple #[.slice none 0 0, .int .i64 5]) ∧ Below w.heap.size w w' := by
  have ho4 := o4_bd m 0 (fun j _ h => hm j (by omega))
  obtain ⟨b1, o1, hA1, hq1, hq2, hq3, hq4⟩ := bys_pos hb (by omega)
  have hro := readoff_any m b1 o1 len cap w (fun j hj => hq4 j (by omega)) (fun j hj => hm _ (by omega)) (by omega) hq3
  rw [hF] at hro
  have g1 : (F : Int) < 4294967296 := by omega
  have f6 : ¬ most < 0 := by omega
  have f7 : (0 : Int) ≤ most := by omega
  have f8 : (4 : Int) ≤ (len : Int) := by omega
  have f9 : (len : Int) ≤ 140737488351232 := by omega
  have f10 : ¬ (len : Int) = 0 := by omega
  have f11 : ¬ (len : Int) < 4 := by omega
  have HRO := hid hro
  have x1 : ¬ (F : Int) = 0 := by omega
  have x2 : ¬ (F : Int) % 4 = 0 := by omega
  have x3 : ¬ (F : Int).tmod 4 = 0 := by rw [Int.tmod_eq_emod_of_nonneg (by omega)]; exact x2
  clear hz hq
  subst hA1
  clear hb hm hq1 hq2 hq3 hq4 hro ho4 hF g1
  go_enter Try.func8, Try.ntmps8
  go_wp2
  refine wp_scope_jumps 0 (fun a' w' => RefC (.slice (some ⟨b1, o1, none⟩) len cap) (.int .i64 most) 5 a' ∧ Below w.heap.size w w') (fun _ _ => 0) rfl ?_ ?_
  · go_wp2_with (go_at_call 14; refine HRO.out.mono ?_; rintro e w1 ⟨rfl, hb1⟩; have HBL := hid hb1; clear hb1)
    go_step3
    exact ⟨rfl, ⟨_, _, _, _, _, _, _, _, _, _, _, _, _, _, _, _, _, _, _, _, _, _, _, _, _, _, _, _, _, _, _, _, _, _, _, _, _, _, _, _, _, _, _, _, _, rfl⟩, HBL.out⟩
  · rintro a' w' ⟨⟨u6, u7, u9, u10, u11, u12, u13, u14, u15, u16, u17, u18, u19, u20, u21, u22, u23, u24, u25, u26, u27, u28, u29, u30, u31, u32, u33, u34, u35, u36, u37, u38, u39, u40, u41, u42, u43, u44, u45, u46, u47, u48, u49, u50, u51, rfl⟩, hbe⟩
    have HBE := hid hbe
    clear hbe
    go_wp2
    simp only [Exit.jump]
    go_ret2
    exact ⟨rfl, HBE.out⟩

set_option maxRecDepth 20000 in
set_option maxHeartbeats 1000000 in
theorem many_far (m : Nat → Int) (ao : Option Addr) (len cap : Nat) (most : Int) (w : World) (hb : Bys w ao len cap m) (hm : ∀ j, j < len → 0 ≤ m j ∧ m j < 256) (hlen : len ≤ 140737488351232) (hlc : len ≤ cap) (hcap : cap ≤ 9223372036854775807) (hmo0 : 0 ≤ most) (hmo1 : most ≤ 9223372036854775807) (h4 : 4 ≤ len) (F : Nat) (hF : o4 m 0 = (F : Int)) (hz : ¬ F = 0) (hq : F % 4 = 0) (hf : len < F) :
    Calls Try.prog 8 #[.slice ao len cap, .int .i64 most] w fun e w' => e = .returned (.tuple #[.slice none 0 0, .int .i64 5]) ∧ Below w.heap.size w w' := by
  have ho4 := o4_bd m 0 (fun j _ h => hm j (by omega))
  obtain ⟨b1, o1, hA1, hq1, hq2, hq3, hq4⟩ := bys_pos hb (by omega)
  have hro := readoff_any m b1 o1 len cap w (fun j hj => hq4 j (by omega)) (fun j hj => hm _ (by omega)) (by omega) hq3
  rw [hF] at hro
  have g1 : (F : Int) < 4294967296 := by omega
  have f6 : ¬ most < 0 := by omega
  have f7 : (0 : Int) ≤ most := by omega
  have f8 : (4 : Int) ≤ (len : Int) := by omega
  have f9 : (len : Int) ≤ 140737488351232 := by omega
  have f10 : ¬ (len : Int) = 0 := by omega
  have f11 : ¬ (len : Int) < 4 := by omega
  have HRO := hid hro
  have x1 : ¬ (F : Int) = 0 := by omega
  have x2 : (F : Int) % 4 = 0 := by omega
  have x3 : (F : Int).tmod 4 = 0 := by rw [Int.tmod_eq_emod_of_nonneg (by omega)]; exact x2
  have x4 : (len : Int) < (F : Int) := by omega
  clear hz hq
  subst hA1
  clear hb hm hq1 hq2 hq3 hq4 hro ho4 hF g1
  go_enter Try.func8, Try.ntmps8
  go_wp2
  refine wp_scope_jumps 0 (fun a' w' => RefC (.slice (some ⟨b1, o1, none⟩) len cap) (.int .i64 most) 5 a' ∧ Below w.heap.size w w') (fun _ _ => 0) rfl ?_ ?_
  · go_wp2_with (go_at_call 14; refine HRO.out.mono ?_; rintro e w1 ⟨rfl, hb1⟩; have HBL := hid hb1; clear hb1)
    go_step3
    exact ⟨rfl, ⟨_, _, _, _, _, _, _, _, _, _, _, _, _, _, _, _, _, _, _, _, _, _, _, _, _, _, _, _, _, _, _, _, _, _, _, _, _, _, _, _, _, _, _, _, _, rfl⟩, HBL.out⟩
  · rintro a' w' ⟨⟨u6, u7, u9, u10, u11, u12, u13, u14, u15, u16, u17, u18, u19, u20, u21, u22, u23, u24, u25, u26, u27, u28, u29, u30, u31, u32, u33, u34, u35, u36, u37, u38, u39, u40, u41, u42, u43, u44, u45, u46, u47, u48, u49, u50, u51, rfl⟩, hbe⟩
    have HBE := hid hbe
    clear hbe
    go_wp2
    simp only [Exit.jump]
    go_ret2
    exact ⟨rfl, HBE.out⟩

set_option maxRecDepth 20000 in
set_option maxHeartbeats 1000000 in
theorem many_long (m : Nat → Int) (ao : Option Addr) (len cap : Nat) (most : Int) (w : World) (hb : Bys w ao len cap m) (hm : ∀ j, j < len → 0 ≤ m j ∧ m j < 256) (hlen : len ≤ 140737488351232) (hlc : len ≤ cap) (hcap : cap ≤ 9223372036854775807) (hmo0 : 0 ≤ most) (hmo1 : most ≤ 9223372036854775807) (h4 : 4 ≤ len) (F : Nat) (hF : o4 m 0 = (F : Int)) (n : Nat) (hn : F = 4 * n) (hn1 : 1 ≤ n) (hf : F ≤ len) (hlo : most < (n : Int)) :
    Calls Try.prog 8 #[.slice ao len cap, .int .i64 most] w fun e w' => e = .returned (.tuple #[.slice none 0 0, .int .i64 6]) ∧ Below w.heap.size w w' := by
  have ho4 := o4_bd m 0 (fun j _ h => hm j (by omega))
  obtain ⟨b1, o1, hA1, hq1, hq2, hq3, hq4⟩ := bys_pos hb (by omega)
  have hro := readoff_any m b1 o1 len cap w (fun j hj => hq4 j (by omega)) (fun j hj => hm _ (by omega)) (by omega) hq3
  rw [hF] at hro
  have g1 : (F : Int) < 4294967296 := by omega
  have f6 : ¬ most < 0 := by omega
  have f7 : (0 : Int) ≤ most := by omega
  have f8 : (4 : Int) ≤ (len : Int) := by omega
  have f9 : (len : Int) ≤ 140737488351232 := by omega
  have f10 : ¬ (len : Int) = 0 := by omega
  have f11 : ¬ (len : Int) < 4 := by omega
  have HRO := hid hro
  have x1 : ¬ (F : Int) = 0 := by omega
  have x2 : (F : Int) % 4 = 0 := by omega
  have x3 : (F : Int).tmod 4 = 0 := by rw [Int.tmod_eq_emod_of_nonneg (by omega)]; exact x2
  have x4 : ¬ (len : Int) < (F : Int) := by omega
  have x5 : ¬ len < F := by omega
  have x6 : (F : Int) / 4 = (n : Int) := by omega
  have x7 : (F : Int).tdiv 4 = (n : Int) := by rw [Int.tdiv_eq_ediv_of_nonneg (by omega)]; exact x6
  clear hn
  subst hA1
  clear hb hm hq1 hq2 hq3 hq4 hro ho4 hF g1
  go_enter Try.func8, Try.ntmps8
  go_wp2
  refine wp_scope_jumps 0 (fun a' w' => RefC (.slice (some ⟨b1, o1, none⟩) len cap) (.int .i64 most) 6 a' ∧ Below w.heap.size w w') (fun _ _ => 0) rfl ?_ ?_
  · go_wp2_with (go_at_call 14; refine HRO.out.mono ?_; rintro e w1 ⟨rfl, hb1⟩; have HBL := hid hb1; clear hb1)
    go_step3
    exact ⟨rfl, ⟨_, _, _, _, _, _, _, _, _, _, _, _, _, _, _, _, _, _, _, _, _, _, _, _, _, _, _, _, _, _, _, _, _, _, _, _, _, _, _, _, _, _, _, _, _, rfl⟩, HBL.out⟩
  · rintro a' w' ⟨⟨u6, u7, u9, u10, u11, u12, u13, u14, u15, u16, u17, u18, u19, u20, u21, u22, u23, u24, u25, u26, u27, u28, u29, u30, u31, u32, u33, u34, u35, u36, u37, u38, u39, u40, u41, u42, u43, u44, u45, u46, u47, u48, u49, u50, u51, rfl⟩, hbe⟩
    have HBE := hid hbe
    clear hbe
    go_wp2
    simp only [Exit.jump]
    go_ret2
    exact ⟨rfl, HBE.out⟩

set_option maxRecDepth 20000 in
set_option maxHeartbeats 1000000 in
theorem many_order (m : Nat → Int) (ao : Option Addr) (len cap : Nat) (most : Int) (w : World) (hb : Bys w ao len cap m) (hm : ∀ j, j < len → 0 ≤ m j ∧ m j < 256) (hlen : len ≤ 140737488351232) (hlc : len ≤ cap) (hcap : cap ≤ 9223372036854775807) (n : Nat) (hn1 : 1 ≤ n) (hfi : o4 m 0 = ((4 * n : Nat) : Int)) (hfl : 4 * n ≤ len) (hmo0 : (n : Int) ≤ most) (hmo1 : most ≤ 9223372036854775807) (os : Nat → Nat) (hos : ∀ i, i < n → o4 m (4 * i) = (os i : Int)) (hob : ∀ i, i < n → os i < 4294967296) (hor : ordB (fun i => (os i : Int)) len n = false) :
    Calls Try.prog 8 #[.slice ao len cap, .int .i64 most] w fun e w' => e = .returned (.tuple #[.slice none 0 0, .int .i64 5]) ∧ Below w.heap.size w w' := by
  have HOB := hid hob
  clear hob
  have ho4 := o4_bd m 0 (fun j _ h => hm j (by omega))
  have hnb : n ≤ 1000000000000 := by omega
  obtain ⟨b1, o1, hA1, hq1, hq2, hq3, hq4⟩ := bys_pos hb (by omega)
  have hro := readoff_any m b1 o1 len cap w (fun j hj => hq4 j (by omega)) (fun j hj => hm _ (by omega)) (by omega) hq3
  rw [hfi] at hro
  obtain ⟨F, eF⟩ : ∃ F, 4 * n = F := ⟨_, rfl⟩
  rw [eF] at hro
  obtain ⟨A2, hA2, hp2⟩ := sl_upto ao len cap F m (by omega) hlc
  have f1 : ¬ (F : Int) = 0 := by omega
  have f2 : (F : Int) % 4 = 0 := by omega
  have f3 : ¬ (len : Int) < (F : Int) := by omega
  have f3n : ¬ len < F := by omega
  have f3m : F ≤ len := by omega
  have f4 : (F : Int) / 4 = (n : Int) := by omega
  have f5 : ¬ most < (n : Int) := by omega
  have f6 : ¬ most < 0 := by omega
  have f7 : (0 : Int) ≤ most := by omega
  have f8 : (4 : Int) ≤ (len : Int) := by omega
  have f9 : (len : Int) ≤ 140737488351232 := by omega
  have f10 : (F : Int).tmod 4 = 0 := by rw [Int.tmod_eq_emod_of_nonneg (by omega)]; exact f2
  have f11 : (F : Int).tdiv 4 = (n : Int) := by rw [Int.tdiv_eq_ediv_of_nonneg (by omega)]; exact f4
  have HRO := hid hro
  have HA : Hid (Bys w ao len cap m ∧ (∀ j, j < len → 0 ≤ m j ∧ m j < 256) ∧ 4 * n = F ∧ (∀ W, Bys W ao len cap m → Bys W A2 F cap m)) := ⟨hb, hm, eF, hp2⟩
  have HOS := hid hos
  have HOR := hid hor
  have HFL := hid hfl
  subst hA1
  clear hb hm hq1 hq2 hq3 hq4 hro hp2 eF hos hor hfi ho4 hfl
  go_enter Try.func8, Try.ntmps8
  go_wp2
  refine wp_scope_jumps 0 (fun a' w' => RefC (.slice (some ⟨b1, o1, none⟩) len cap) (.int .i64 most) 5 a' ∧ Below w.heap.size w w') (fun _ _ => 0) rfl ?_ ?_
  · go_upto_region 15 with (go_at_call 14; refine HRO.out.mono ?_; rintro e w1 ⟨rfl, hb1⟩)
    obtain ⟨hb, hm, eF, hp2⟩ := HA.out
    have hfl := HFL.out
    have hrs := readoffs_any m A2 F cap n w1 (hp2 w1 (hb.below hb1)) (fun j hj => hm j (by omega)) (by omega) eF.symm hnb
    obtain ⟨go, ego⟩ : ∃ x, w1.heap.size = x := ⟨_, rfl⟩
    rw [ego] at hrs
    have HRS := hid hrs
    have HB1 := hid hb1
    have HGO := hid ego
    clear hb hm eF hp2 hrs hb1 ego hfl
    go_upto_region 16 with (go_at_call 15; refine HRS.out.mono ?_; rintro e w2 ⟨rfl, hr2, hb2⟩)
    obtain ⟨hb, hm, eF, hp2⟩ := HA.out
    have hb1 := HB1.out
    have ego := HGO.out
    have hfl := HFL.out
    have hz1 := hb1.size
    have hB2 : Below w.heap.size w w2 := hb1.trans (hb2.mono (by omega))
    have hgo := (Array.getElem?_eq_some_iff.1 hr2).1
    have hnm : Nms .u64 w2 (some ⟨go, 0, none⟩) n (fun i => (os i : Int)) := .inr ⟨go, 0, rfl, hgo, fun j hj => by rw [Nat.zero_add, vals_cell hr2 j hj, HOS.out j hj]⟩
    have hio := inorder_any (fun i => (os i : Int)) (some ⟨go, 0, none⟩) n n len w2 hnm (by omega) (fun i hi => by have := HOB.out i hi; omega) (by omega)
    rw [HOR.out] at hio
    have HIO := hid hio
    have HBL := hid hB2
    clear hb hm eF hp2 hb1 ego hz1 hB2 hgo hnm hio hr2 hb2 hfl
    go_wp2_with (go_at_call 16; refine HIO.out.mono ?_; rintro e w3 ⟨rfl, rfl⟩)
    go_step3
    exact ⟨rfl, ⟨_, _, _, _, _, _, _, _, _, _, _, _, _, _, _, _, _, _, _, _, _, _, _, _, _, _, _, _, _, _, _, _, _, _, _, _, _, _, _, _, _, _, _, _, _, rfl⟩, HBL.out⟩
  · rintro a' w' ⟨⟨u6, u7, u9, u10, u11, u12, u13, u14, u15, u16, u17, u18, u19, u20, u21, u22, u23, u24, u25, u26, u27, u28, u29, u30, u31, u32, u33, u34, u35, u36, u37, u38, u39, u40, u41, u42, u43, u44, u45, u46, u47, u48, u49, u50, u51, rfl⟩, hbe⟩
    have HBE := hid hbe
    clear hbe
    go_wp2
    simp only [Exit.jump]
    go_ret2
    exact ⟨rfl, HBE.out⟩

end Go.Proofs.Ytfhplpcbaoefeaa
