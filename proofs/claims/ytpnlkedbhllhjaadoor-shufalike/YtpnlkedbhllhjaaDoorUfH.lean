/-
  What the statements' own awake answers.
-/
import Derived.Test.YtpnlkedbhllhjaaDoorUfG
import Derived.BigQuiet
import Derived.Deep.QuietTactic
namespace Go.Proofs.YtpnlkedbhllhjaaDoor
open Go.RowKit
set_option linter.unusedVariables false
set_option linter.unusedSimpArgs false

def bd27 (ps : Array (Nat × Value)) : Sem Value := Instr.build 24 ps
theorem bd27_eq (ps : Array (Nat × Value)) : Instr.build 24 ps = bd27 ps := rfl
theorem bd27_0 (W : World) : (bd27 #[]).run Tryd.prog W = .ok (.agg (vs .u8 32 fun _ => 0)) W := by kernel_rfl
theorem drewN_heap (w : World) : ∀ q, (w.drewN q).heap = w.heap ∧ (w.drewN q).os = w.os ∧ (w.drewN q).tape = w.tape ∧ (w.drewN q).output = w.output := by
  intro q
  induction q with
  | zero => exact ⟨rfl, rfl, rfl, rfl⟩
  | succ q ih => exact ih
theorem below_drewN {B : Nat} {w w' : World} (h : Below B w w') (q : Nat) : Below B w (w'.drewN q) := by
  obtain ⟨h1, h2, h3, h4⟩ := drewN_heap w' q
  exact ⟨h2.trans h.os, h3.trans h.tape, h4.trans h.output, by rw [h1]; exact h.size, fun k hk => by rw [h1]; exact h.block k hk⟩
theorem pl_inj (s : Nat → Int) {n i j : Int} (i0 : 0 ≤ i) (i1 : i < n) (j0 : 0 ≤ j) (j1 : j < n) (h : plV s n 6 i = plV s n 6 j) : i = j := by
  rw [← bk_pl s i0 i1, h, bk_pl s j0 j1]
theorem three (s : Nat → Int) : ∃ a b c : Nat, plV s 3 6 0 = a ∧ plV s 3 6 1 = b ∧ plV s 3 6 2 = c ∧ a < 3 ∧ b < 3 ∧ c < 3 ∧ a + b + c = 3 := by
  obtain ⟨a0, a1⟩ := plV_bd s (n := 3) (i := 0) (by omega) (by omega) 6
  obtain ⟨b0, b1⟩ := plV_bd s (n := 3) (i := 1) (by omega) (by omega) 6
  obtain ⟨c0, c1⟩ := plV_bd s (n := 3) (i := 2) (by omega) (by omega) 6
  have h1 : ¬ plV s 3 6 0 = plV s 3 6 1 := fun h => by have := pl_inj s (by omega) (by omega) (by omega) (by omega) h; omega
  have h2 : ¬ plV s 3 6 0 = plV s 3 6 2 := fun h => by have := pl_inj s (by omega) (by omega) (by omega) (by omega) h; omega
  have h3 : ¬ plV s 3 6 1 = plV s 3 6 2 := fun h => by have := pl_inj s (by omega) (by omega) (by omega) (by omega) h; omega
  generalize plV s 3 6 0 = x at *
  generalize plV s 3 6 1 = y at *
  generalize plV s 3 6 2 = z at *
  exact ⟨x.toNat, y.toNat, z.toNat, by omega, by omega, by omega, by omega, by omega, by omega, by omega⟩

attribute [local go_sem ↓] sv24_eq lv24_eq sv8_eq bd27_eq

set_option maxRecDepth 20000 in
set_option maxHeartbeats 1000000 in
theorem awake_any (w : World) (hS : Sh w) :
    Calls Tryd.prog 8 #[] w fun e w' => e = .returned (.bool true) ∧ Below w.heap.size w w' := by
  obtain ⟨W0, hW0⟩ : ∃ W, w.alloc (.cells #[.int .u64 5, .int .u64 6, .int .u64 7] 22) = W := ⟨_, rfl⟩
  have r0 : W0.heap[w.heap.size]? = some (.cells (vs .u64 3 (fun j => 5 + (j : Int))) 22) := by rw [← hW0]; exact heap_new rfl
  have hB0 : Below w.heap.size w W0 := by rw [← hW0]; exact (Below.refl _ _).alloc (Nat.le_refl _) _
  have z0 : w.heap.size < W0.heap.size := (Array.getElem?_eq_some_iff.1 r0).1
  have hl := list_ok (fun _ => 0) (some ⟨w.heap.size, 0, none⟩) 3 3 (fun j => 5 + (j : Int)) W0 (fun _ _ => by decide) (n64_row r0) (by omega) (by omega) (hS.below hB0)
  have hp := fun W : World => place_no (fun _ => 0) 0 0 W rfl
  obtain ⟨a, b, c, ea, eb, ec, la, lb, lc, hsum⟩ := three (fun _ => 0)
  have bb := bd27_0
  have HL := hid hl
  have HP := hid hp
  have HB0 := hid hB0
  have HW0 := hid hW0
  clear hl hp hB0 hW0 r0 hS
  have E := hid (And.intro ea (And.intro eb ec))
  clear ea eb ec
  go_enter Tryd.func8, Tryd.ntmps8
  go_upto_region 3 with (first
    | (go_at_call 13; rw [HW0.out]; refine HL.out.mono ?_; rintro e w1 ⟨g, rfl, hb1, hg1, hr1⟩)
    | (go_at_call 9; refine (HP.out _).mono ?_; rintro e w2 ⟨rfl, hb2⟩))
  have r2 := (hb2.block _ (Array.getElem?_eq_some_iff.1 hr1).1).trans hr1
  have c0 : w2.cell? ⟨g, 0, none⟩ = some (.int .u64 (5 + (a : Int))) := by
    rw [row_int r2 0 (by omega)]
    show some (Value.int .u64 (5 + ((plV (fun _ => 0) 3 6 0).toNat : Int))) = _
    rw [E.out.1]
    rfl
  have c1 : w2.cell? ⟨g, 1, none⟩ = some (.int .u64 (5 + (b : Int))) := by
    rw [row_int r2 1 (by omega)]
    show some (Value.int .u64 (5 + ((plV (fun _ => 0) 3 6 1).toNat : Int))) = _
    rw [E.out.2.1]
    rfl
  have c2 : w2.cell? ⟨g, 2, none⟩ = some (.int .u64 (5 + (c : Int))) := by
    rw [row_int r2 2 (by omega)]
    show some (Value.int .u64 (5 + ((plV (fun _ => 0) 3 6 2).toNat : Int))) = _
    rw [E.out.2.2]
    rfl
  obtain ⟨A, hA⟩ : ∃ A : Int, 5 + (a : Int) = A := ⟨_, rfl⟩
  obtain ⟨B, hB⟩ : ∃ A : Int, 5 + (b : Int) = A := ⟨_, rfl⟩
  obtain ⟨C, hC⟩ : ∃ A : Int, 5 + (c : Int) = A := ⟨_, rfl⟩
  rw [hA] at c0
  rw [hB] at c1
  rw [hC] at c2
  have s1 : IntKind.u64.wrap (A + B) = A + B := by rw [IntKind.wrap_u64]; omega
  have s2 : IntKind.u64.wrap (A + B + C) = 18 := by rw [IntKind.wrap_u64]; omega
  have hBel : Below w.heap.size w w2 := HB0.out.trans ((hb1.mono (by omega)).trans (hb2.mono (by have := hb1.size; omega)))
  have HBE := hid hBel
  clear hBel hb1 hb2 hr1 r2 hA hB hC hg1 HL HP E HB0 HW0 hsum la lb lc
  go_quiet (fail)
  go_wp2
  go_ret
  exact ⟨rfl, below_drewN HBE.out _⟩

end Go.Proofs.YtpnlkedbhllhjaaDoor
