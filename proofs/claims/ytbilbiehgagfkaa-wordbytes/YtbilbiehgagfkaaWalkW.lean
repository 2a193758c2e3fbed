/-
  WordBytes, case by case: no bytes, bytes that are not eight, eight bytes.
-/
import Derived.Test.YtbilbiehgagfkaaWalkZ
namespace Go.Proofs.Ytbilbiehgagfkaa
open Go.RowKit

set_option maxHeartbeats 1000000 in
theorem wb_nil (a0 : Int) (w : World) (n1 : 0 ≤ a0) (n2 : a0 < 18446744073709551616) :
    Calls Try.prog 6 #[.int .u64 a0, .slice none 0 0] w fun e w' => e = .returned (.bool true) ∧ Below w.heap.size w w' := by
  have q8 := eq8
  go_enter Try.func6, Try.ntmps6
  go_upto_region 5 with (first
    | (go_at_call 9; refine (awake_any _).mono ?_; rintro e w' ⟨rfl, n, rfl⟩)
    | (go_at_call 21; refine (bytes_any _ _ (by omega) (by omega)).mono ?_; rintro e w' ⟨rfl, t, rfl⟩)
    | (go_at_call 22; refine (read_new _ _ _ a0 n1 n2 (by simp)).mono ?_; rintro e w' ⟨rfl, rfl⟩))
  go_wp2_with (first
    | (go_at_call 22; refine (read_no _ 0 _ _ (by decide)).mono ?_; rintro e w' ⟨rfl, rfl⟩)
    | (go_at_call 23; refine (rRead_no _ 0 _ _ (by decide)).mono ?_; rintro e w' ⟨rfl, rfl⟩))
  go_region_held3 (fun w' => w'.cell? ⟨w.heap.size + 1 + 1, 0, none⟩ = some (.int .u8 (bt a0 0)) ∧ w'.cell? ⟨w.heap.size + 1 + 1, 1, none⟩ = some (.int .u8 (bt a0 1)) ∧ w'.cell? ⟨w.heap.size + 1 + 1, 2, none⟩ = some (.int .u8 (bt a0 2)) ∧ w'.cell? ⟨w.heap.size + 1 + 1, 3, none⟩ = some (.int .u8 (bt a0 3)) ∧ w'.cell? ⟨w.heap.size + 1 + 1, 4, none⟩ = some (.int .u8 (bt a0 4)) ∧ w'.cell? ⟨w.heap.size + 1 + 1, 5, none⟩ = some (.int .u8 (bt a0 5)) ∧ w'.cell? ⟨w.heap.size + 1 + 1, 6, none⟩ = some (.int .u8 (bt a0 6)) ∧ w'.cell? ⟨w.heap.size + 1 + 1, 7, none⟩ = some (.int .u8 (bt a0 7))) (simp [go_sem, World.cell?_alloc_past])
    (first
      | (go_at_call 24; refine (rBytes_any _ _ (by omega) (by omega)).mono ?_; rintro e w' ⟨rfl, t, rfl⟩))
  go_wp2
  go_ret
  exact ⟨rfl, by go_grown; all_goals exact below_drewN (Below.refl _ _) _⟩

set_option maxHeartbeats 1000000 in
theorem wb_empty (a0 : Int) (x : Addr) (cap : Nat) (w : World) (n1 : 0 ≤ a0) (n2 : a0 < 18446744073709551616) :
    Calls Try.prog 6 #[.int .u64 a0, .slice (some x) 0 cap] w fun e w' => e = .returned (.bool true) ∧ Below w.heap.size w w' := by
  have q8 := eq8
  go_enter Try.func6, Try.ntmps6
  go_upto_region 5 with (first
    | (go_at_call 9; refine (awake_any _).mono ?_; rintro e w' ⟨rfl, n, rfl⟩)
    | (go_at_call 21; refine (bytes_any _ _ (by omega) (by omega)).mono ?_; rintro e w' ⟨rfl, t, rfl⟩)
    | (go_at_call 22; refine (read_new _ _ _ a0 n1 n2 (by simp)).mono ?_; rintro e w' ⟨rfl, rfl⟩))
  go_wp2_with (first
    | (go_at_call 22; refine (read_no _ 0 _ _ (by decide)).mono ?_; rintro e w' ⟨rfl, rfl⟩)
    | (go_at_call 23; refine (rRead_no _ 0 _ _ (by decide)).mono ?_; rintro e w' ⟨rfl, rfl⟩))
  go_region_held3 (fun w' => w'.cell? ⟨w.heap.size + 1 + 1, 0, none⟩ = some (.int .u8 (bt a0 0)) ∧ w'.cell? ⟨w.heap.size + 1 + 1, 1, none⟩ = some (.int .u8 (bt a0 1)) ∧ w'.cell? ⟨w.heap.size + 1 + 1, 2, none⟩ = some (.int .u8 (bt a0 2)) ∧ w'.cell? ⟨w.heap.size + 1 + 1, 3, none⟩ = some (.int .u8 (bt a0 3)) ∧ w'.cell? ⟨w.heap.size + 1 + 1, 4, none⟩ = some (.int .u8 (bt a0 4)) ∧ w'.cell? ⟨w.heap.size + 1 + 1, 5, none⟩ = some (.int .u8 (bt a0 5)) ∧ w'.cell? ⟨w.heap.size + 1 + 1, 6, none⟩ = some (.int .u8 (bt a0 6)) ∧ w'.cell? ⟨w.heap.size + 1 + 1, 7, none⟩ = some (.int .u8 (bt a0 7))) (simp [go_sem, World.cell?_alloc_past])
    (first
      | (go_at_call 24; refine (rBytes_any _ _ (by omega) (by omega)).mono ?_; rintro e w' ⟨rfl, t, rfl⟩))
  go_wp2
  go_ret
  exact ⟨rfl, by go_grown; all_goals exact below_drewN (Below.refl _ _) _⟩

set_option maxHeartbeats 1000000 in
theorem wb_other (a0 : Int) (x : Addr) (len cap : Nat) (zs : List Int) (w : World) (n1 : 0 ≤ a0) (n2 : a0 < 18446744073709551616) (h0 : 0 < len) (h8 : ¬ len = 8) (hl : len ≤ zs.length) (hb : len ≤ 140737488351232) (hcell : ∀ i, i < zs.length → w.cell? (x.add i) = some (.int .u8 (zs.getD i 0))) :
    Calls Try.prog 6 #[.int .u64 a0, .slice (some x) len cap] w fun e w' => e = .returned (.bool true) ∧ Below w.heap.size w w' := by
  have q8 := eq8
  have hcell' := hid hcell
  clear hcell
  go_enter Try.func6, Try.ntmps6
  go_upto_region 5 with (first
    | (go_at_call 9; refine (awake_any _).mono ?_; rintro e w' ⟨rfl, n, rfl⟩)
    | (go_at_call 21; refine (bytes_any _ _ (by omega) (by omega)).mono ?_; rintro e w' ⟨rfl, t, rfl⟩)
    | (go_at_call 22; refine (read_new _ _ _ a0 n1 n2 (by simp)).mono ?_; rintro e w' ⟨rfl, rfl⟩))
  obtain ⟨W3, hW3⟩ : ∃ W, W = (((w.drewN n).alloc (.cells #[.int .u8 (bt a0 0), .int .u8 (bt a0 1), .int .u8 (bt a0 2), .int .u8 (bt a0 3), .int .u8 (bt a0 4), .int .u8 (bt a0 5), .int .u8 (bt a0 6), .int .u8 (bt a0 7)] t)).alloc (.cells #[.int .u8 (bt a0 0), .int .u8 (bt a0 1), .int .u8 (bt a0 2), .int .u8 (bt a0 3), .int .u8 (bt a0 4), .int .u8 (bt a0 5), .int .u8 (bt a0 6), .int .u8 (bt a0 7)] t)).alloc (.cells #[.int .u8 (bt a0 0), .int .u8 (bt a0 1), .int .u8 (bt a0 2), .int .u8 (bt a0 3), .int .u8 (bt a0 4), .int .u8 (bt a0 5), .int .u8 (bt a0 6), .int .u8 (bt a0 7)] 34) := ⟨_, rfl⟩
  rw [← hW3]
  have hB : Below w.heap.size w W3 := by rw [hW3]; go_grown; all_goals exact below_drewN (Below.refl _ _) _
  have hs : W3.heap.size = w.heap.size + 1 + 1 + 1 := by rw [hW3]; simp
  have X0 : W3.cell? ⟨w.heap.size + 1 + 1, 0, none⟩ = some (.int .u8 (bt a0 0)) := by rw [hW3]; simp [go_sem]
  have X1 : W3.cell? ⟨w.heap.size + 1 + 1, 1, none⟩ = some (.int .u8 (bt a0 1)) := by rw [hW3]; simp [go_sem]
  have X2 : W3.cell? ⟨w.heap.size + 1 + 1, 2, none⟩ = some (.int .u8 (bt a0 2)) := by rw [hW3]; simp [go_sem]
  have X3 : W3.cell? ⟨w.heap.size + 1 + 1, 3, none⟩ = some (.int .u8 (bt a0 3)) := by rw [hW3]; simp [go_sem]
  have X4 : W3.cell? ⟨w.heap.size + 1 + 1, 4, none⟩ = some (.int .u8 (bt a0 4)) := by rw [hW3]; simp [go_sem]
  have X5 : W3.cell? ⟨w.heap.size + 1 + 1, 5, none⟩ = some (.int .u8 (bt a0 5)) := by rw [hW3]; simp [go_sem]
  have X6 : W3.cell? ⟨w.heap.size + 1 + 1, 6, none⟩ = some (.int .u8 (bt a0 6)) := by rw [hW3]; simp [go_sem]
  have X7 : W3.cell? ⟨w.heap.size + 1 + 1, 7, none⟩ = some (.int .u8 (bt a0 7)) := by rw [hW3]; simp [go_sem]
  clear hW3
  obtain ⟨C, arr, happ, harr⟩ := app_copy (W3.alloc (.cells #[] 5)) (w.heap.size + 1 + 1 + 1) x len cap zs h0 hl (fun i hi => cell_later (hB.alloc (by omega) _) (hcell'.out i hi)) hb
  simp only [World.size_alloc, hs] at happ
  clear harr
  have h8' : ((len : Int) == 8) = false := by simp; omega
  have h9 : ((len : Int) != 8) = true := by simp; omega
  go_wp2_with (first
    | (at_builtin; refine wpList_append_is _ rfl _ _ 33 rfl _ _ _ _ rfl rfl happ ?_)
    | (go_at_call 22; refine (read_no _ len _ _ h8).mono ?_; rintro e w' ⟨rfl, rfl⟩)
    | (go_at_call 23; refine (rRead_no _ len _ _ h8).mono ?_; rintro e w' ⟨rfl, rfl⟩))
  go_region_held3 (fun w' => w'.cell? ⟨w.heap.size + 1 + 1, 0, none⟩ = some (.int .u8 (bt a0 0)) ∧ w'.cell? ⟨w.heap.size + 1 + 1, 1, none⟩ = some (.int .u8 (bt a0 1)) ∧ w'.cell? ⟨w.heap.size + 1 + 1, 2, none⟩ = some (.int .u8 (bt a0 2)) ∧ w'.cell? ⟨w.heap.size + 1 + 1, 3, none⟩ = some (.int .u8 (bt a0 3)) ∧ w'.cell? ⟨w.heap.size + 1 + 1, 4, none⟩ = some (.int .u8 (bt a0 4)) ∧ w'.cell? ⟨w.heap.size + 1 + 1, 5, none⟩ = some (.int .u8 (bt a0 5)) ∧ w'.cell? ⟨w.heap.size + 1 + 1, 6, none⟩ = some (.int .u8 (bt a0 6)) ∧ w'.cell? ⟨w.heap.size + 1 + 1, 7, none⟩ = some (.int .u8 (bt a0 7))) (simp [go_sem, World.cell?_alloc_past, hs, X0, X1, X2, X3, X4, X5, X6, X7])
    (first
      | (go_at_call 24; refine (rBytes_any _ _ (by omega) (by omega)).mono ?_; rintro e w' ⟨rfl, t, rfl⟩))
  go_wp2
  go_ret
  exact ⟨rfl, by go_grown; all_goals exact hB⟩

set_option maxHeartbeats 2000000 in
theorem wb_eight (a0 : Int) (b off cap : Nat) (zs : List Int) (z0 z1 z2 z3 z4 z5 z6 z7 : Int) (w : World) (n1 : 0 ≤ a0) (n2 : a0 < 18446744073709551616) (hl : 8 ≤ zs.length) (hcell : ∀ i, i < zs.length → w.cell? ((⟨b, off, none⟩ : Addr).add i) = some (.int .u8 (zs.getD i 0)))
    (e0 : zs.getD 0 0 = z0) (p0 : 0 ≤ z0) (q0 : z0 ≤ 255) (e1 : zs.getD 1 0 = z1) (p1 : 0 ≤ z1) (q1 : z1 ≤ 255) (e2 : zs.getD 2 0 = z2) (p2 : 0 ≤ z2) (q2 : z2 ≤ 255) (e3 : zs.getD 3 0 = z3) (p3 : 0 ≤ z3) (q3 : z3 ≤ 255) (e4 : zs.getD 4 0 = z4) (p4 : 0 ≤ z4) (q4 : z4 ≤ 255) (e5 : zs.getD 5 0 = z5) (p5 : 0 ≤ z5) (q5 : z5 ≤ 255) (e6 : zs.getD 6 0 = z6) (p6 : 0 ≤ z6) (q6 : z6 ≤ 255) (e7 : zs.getD 7 0 = z7) (p7 : 0 ≤ z7) (q7 : z7 ≤ 255) :
    Calls Try.prog 6 #[.int .u64 a0, .slice (some ⟨b, off, none⟩) 8 cap] w fun e w' => e = .returned (.bool true) ∧ Below w.heap.size w w' := by
  have c0 : w.cell? ⟨b, off, none⟩ = some (.int .u8 z0) := by rw [← e0]; exact hcell 0 (by omega)
  have c1 : w.cell? ⟨b, off + 1, none⟩ = some (.int .u8 z1) := by rw [← e1]; exact hcell 1 (by omega)
  have c2 : w.cell? ⟨b, off + 2, none⟩ = some (.int .u8 z2) := by rw [← e2]; exact hcell 2 (by omega)
  have c3 : w.cell? ⟨b, off + 3, none⟩ = some (.int .u8 z3) := by rw [← e3]; exact hcell 3 (by omega)
  have c4 : w.cell? ⟨b, off + 4, none⟩ = some (.int .u8 z4) := by rw [← e4]; exact hcell 4 (by omega)
  have c5 : w.cell? ⟨b, off + 5, none⟩ = some (.int .u8 z5) := by rw [← e5]; exact hcell 5 (by omega)
  have c6 : w.cell? ⟨b, off + 6, none⟩ = some (.int .u8 z6) := by rw [← e6]; exact hcell 6 (by omega)
  have c7 : w.cell? ⟨b, off + 7, none⟩ = some (.int .u8 z7) := by rw [← e7]; exact hcell 7 (by omega)
  obtain ⟨N, hN⟩ : ∃ N, num8 z0 z1 z2 z3 z4 z5 z6 z7 = N := ⟨_, rfl⟩
  have hN0 : 0 ≤ N ∧ N < 18446744073709551616 := by rw [← hN]; unfold num8; omega
  have b0 : bt N 0 = z0 := by rw [← hN]; simp only [bt, num8]; omega
  have b1 : bt N 1 = z1 := by rw [← hN]; simp only [bt, num8]; omega
  have b2 : bt N 2 = z2 := by rw [← hN]; simp only [bt, num8]; omega
  have b3 : bt N 3 = z3 := by rw [← hN]; simp only [bt, num8]; omega
  have b4 : bt N 4 = z4 := by rw [← hN]; simp only [bt, num8]; omega
  have b5 : bt N 5 = z5 := by rw [← hN]; simp only [bt, num8]; omega
  have b6 : bt N 6 = z6 := by rw [← hN]; simp only [bt, num8]; omega
  have b7 : bt N 7 = z7 := by rw [← hN]; simp only [bt, num8]; omega
  have q8 := eq8
  have hcell' := hid hcell
  clear hcell
  go_enter Try.func6, Try.ntmps6
  go_upto_region 5 with (first
    | (go_at_call 9; refine (awake_any _).mono ?_; rintro e w' ⟨rfl, n, rfl⟩)
    | (go_at_call 21; refine (bytes_any _ _ (by omega) (by omega)).mono ?_; rintro e w' ⟨rfl, t, rfl⟩)
    | (go_at_call 22; refine (read_new _ _ _ a0 n1 n2 (by simp)).mono ?_; rintro e w' ⟨rfl, rfl⟩))
  obtain ⟨W3, hW3⟩ : ∃ W, W = (((w.drewN n).alloc (.cells #[.int .u8 (bt a0 0), .int .u8 (bt a0 1), .int .u8 (bt a0 2), .int .u8 (bt a0 3), .int .u8 (bt a0 4), .int .u8 (bt a0 5), .int .u8 (bt a0 6), .int .u8 (bt a0 7)] t)).alloc (.cells #[.int .u8 (bt a0 0), .int .u8 (bt a0 1), .int .u8 (bt a0 2), .int .u8 (bt a0 3), .int .u8 (bt a0 4), .int .u8 (bt a0 5), .int .u8 (bt a0 6), .int .u8 (bt a0 7)] t)).alloc (.cells #[.int .u8 (bt a0 0), .int .u8 (bt a0 1), .int .u8 (bt a0 2), .int .u8 (bt a0 3), .int .u8 (bt a0 4), .int .u8 (bt a0 5), .int .u8 (bt a0 6), .int .u8 (bt a0 7)] 34) := ⟨_, rfl⟩
  rw [← hW3]
  have hB : Below w.heap.size w W3 := by rw [hW3]; go_grown; all_goals exact below_drewN (Below.refl _ _) _
  have hs : W3.heap.size = w.heap.size + 1 + 1 + 1 := by rw [hW3]; simp
  have X0 : W3.cell? ⟨w.heap.size + 1 + 1, 0, none⟩ = some (.int .u8 (bt a0 0)) := by rw [hW3]; simp [go_sem]
  have X1 : W3.cell? ⟨w.heap.size + 1 + 1, 1, none⟩ = some (.int .u8 (bt a0 1)) := by rw [hW3]; simp [go_sem]
  have X2 : W3.cell? ⟨w.heap.size + 1 + 1, 2, none⟩ = some (.int .u8 (bt a0 2)) := by rw [hW3]; simp [go_sem]
  have X3 : W3.cell? ⟨w.heap.size + 1 + 1, 3, none⟩ = some (.int .u8 (bt a0 3)) := by rw [hW3]; simp [go_sem]
  have X4 : W3.cell? ⟨w.heap.size + 1 + 1, 4, none⟩ = some (.int .u8 (bt a0 4)) := by rw [hW3]; simp [go_sem]
  have X5 : W3.cell? ⟨w.heap.size + 1 + 1, 5, none⟩ = some (.int .u8 (bt a0 5)) := by rw [hW3]; simp [go_sem]
  have X6 : W3.cell? ⟨w.heap.size + 1 + 1, 6, none⟩ = some (.int .u8 (bt a0 6)) := by rw [hW3]; simp [go_sem]
  have X7 : W3.cell? ⟨w.heap.size + 1 + 1, 7, none⟩ = some (.int .u8 (bt a0 7)) := by rw [hW3]; simp [go_sem]
  clear hW3
  obtain ⟨C, arr, happ, harr⟩ := app_copy (W3.alloc (.cells #[] 5)) (w.heap.size + 1 + 1 + 1) ⟨b, off, none⟩ 8 cap zs (by omega) hl (fun i hi => cell_later (hB.alloc (by omega) _) (hcell'.out i hi)) (by omega)
  simp only [World.size_alloc, hs] at happ
  have aa0 := harr 0 (by omega)
  have a1 := harr 1 (by omega)
  have a2 := harr 2 (by omega)
  have a3 := harr 3 (by omega)
  have a4 := harr 4 (by omega)
  have a5 := harr 5 (by omega)
  have a6 := harr 6 (by omega)
  have a7 := harr 7 (by omega)
  rw [e0] at aa0
  rw [e1] at a1
  rw [e2] at a2
  rw [e3] at a3
  rw [e4] at a4
  rw [e5] at a5
  rw [e6] at a6
  rw [e7] at a7
  have hB5 : Below w.heap.size w ((W3.alloc (.cells #[] 5)).alloc (.cells arr 5)).drew := by go_grown; all_goals exact hB
  have d0 := cell_later hB5 c0
  have d1 := cell_later hB5 c1
  have d2 := cell_later hB5 c2
  have d3 := cell_later hB5 c3
  have d4 := cell_later hB5 c4
  have d5 := cell_later hB5 c5
  have d6 := cell_later hB5 c6
  have d7 := cell_later hB5 c7
  clear harr e0 e1 e2 e3 e4 e5 e6 e7 hcell'
  go_wp2_with (first
    | (at_builtin; refine wpList_append_is _ rfl _ _ 33 rfl _ _ _ _ rfl rfl happ ?_)
    | (go_at_call 22; refine (read8 _ 0 _ z0 z1 z2 z3 z4 z5 z6 z7 _ (by simp [go_sem, hs, aa0]) p0 q0 (by simp [go_sem, hs, a1]) p1 q1 (by simp [go_sem, hs, a2]) p2 q2 (by simp [go_sem, hs, a3]) p3 q3 (by simp [go_sem, hs, a4]) p4 q4 (by simp [go_sem, hs, a5]) p5 q5 (by simp [go_sem, hs, a6]) p6 q6 (by simp [go_sem, hs, a7]) p7 q7).mono ?_; rintro e w' ⟨rfl, rfl⟩; rw [hN])
    | (go_at_call 23; refine (rRead8 b off _ z0 z1 z2 z3 z4 z5 z6 z7 _ d0 p0 q0 d1 p1 q1 d2 p2 q2 d3 p3 q3 d4 p4 q4 d5 p5 q5 d6 p6 q6 d7 p7 q7).mono ?_; rintro e w' ⟨rfl, rfl⟩; rw [hN]))
  go_region_held3 (fun w' => w'.cell? ⟨w.heap.size + 1 + 1, 0, none⟩ = some (.int .u8 (bt a0 0)) ∧ w'.cell? ⟨w.heap.size + 1 + 1, 1, none⟩ = some (.int .u8 (bt a0 1)) ∧ w'.cell? ⟨w.heap.size + 1 + 1, 2, none⟩ = some (.int .u8 (bt a0 2)) ∧ w'.cell? ⟨w.heap.size + 1 + 1, 3, none⟩ = some (.int .u8 (bt a0 3)) ∧ w'.cell? ⟨w.heap.size + 1 + 1, 4, none⟩ = some (.int .u8 (bt a0 4)) ∧ w'.cell? ⟨w.heap.size + 1 + 1, 5, none⟩ = some (.int .u8 (bt a0 5)) ∧ w'.cell? ⟨w.heap.size + 1 + 1, 6, none⟩ = some (.int .u8 (bt a0 6)) ∧ w'.cell? ⟨w.heap.size + 1 + 1, 7, none⟩ = some (.int .u8 (bt a0 7))) (simp [go_sem, World.cell?_alloc_past, hs, X0, X1, X2, X3, X4, X5, X6, X7])
    (first
      | (go_at_call 24; refine (rBytes_any _ _ (by omega) (by omega)).mono ?_; rintro e w' ⟨rfl, t, rfl⟩))
  go_wp2_with (first
    | (go_at_call 21; refine (bytes_any _ _ hN0.1 hN0.2).mono ?_; rintro e w' ⟨rfl, t, rfl⟩))
  go_region_held3 (fun w' => (convert 33 9 (.slice (some ⟨w.heap.size + 1 + 1 + 1 + 1 + 1 + 1 + 1 + 1 + 1, 0, none⟩) 8 8)).run Try.prog w' = .ok (.string (strOf [z0, z1, z2, z3, z4, z5, z6, z7])) w' ∧ (convert 33 9 (.slice (some ⟨b, off, none⟩) 8 cap)).run Try.prog w' = .ok (.string (strOf [z0, z1, z2, z3, z4, z5, z6, z7])) w')
    (exact ⟨conv8z _ 0 _ z0 z1 z2 z3 z4 z5 z6 z7 _ (by simp [go_sem, hs]) (by simp [go_sem, hs]) (by simp [go_sem, hs]) (by simp [go_sem, hs]) (by simp [go_sem, hs]) (by simp [go_sem, hs]) (by simp [go_sem, hs]) (by simp [go_sem, hs]), conv8z b off _ z0 z1 z2 z3 z4 z5 z6 z7 _ (cell_later (by go_grown; all_goals exact hB) c0) (cell_later (by go_grown; all_goals exact hB) c1) (cell_later (by go_grown; all_goals exact hB) c2) (cell_later (by go_grown; all_goals exact hB) c3) (cell_later (by go_grown; all_goals exact hB) c4) (cell_later (by go_grown; all_goals exact hB) c5) (cell_later (by go_grown; all_goals exact hB) c6) (cell_later (by go_grown; all_goals exact hB) c7)⟩)
    (fail)
  go_wp2
  go_ret
  exact ⟨rfl, by go_grown; all_goals exact hB⟩

end Go.Proofs.Ytbilbiehgagfkaa
