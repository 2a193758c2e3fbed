/-
  What Place and Back answer.
-/
import Derived.Test.YtpnlkedbhllhjaaDoorUfC
namespace Go.Proofs.YtpnlkedbhllhjaaDoor
open Go.RowKit
set_option linter.unusedVariables false
set_option linter.unusedSimpArgs false

/-- A place behind the first k rounds, and behind k rounds the other way round. -/
def plV (s : Nat → Int) (n : Int) : Nat → Int → Int
  | 0, i => i
  | k + 1, i => rdV s (k : Int) n (plV s n k i)
def bkV (s : Nat → Int) (n : Int) : Nat → Int → Int
  | 0, i => i
  | k + 1, i => rdV s (5 - (k : Int)) n (bkV s n k i)
theorem plV_bd (s : Nat → Int) {n i : Int} (h0 : 0 ≤ i) (h1 : i < n) (k : Nat) : 0 ≤ plV s n k i ∧ plV s n k i < n := by
  induction k with
  | zero => exact ⟨h0, h1⟩
  | succ k ih => exact rdV_bd s _ ih.1 ih.2
theorem bkV_bd (s : Nat → Int) {n i : Int} (h0 : 0 ≤ i) (h1 : i < n) (k : Nat) : 0 ≤ bkV s n k i ∧ bkV s n k i < n := by
  induction k with
  | zero => exact ⟨h0, h1⟩
  | succ k ih => exact rdV_bd s _ ih.1 ih.2
theorem bk_pl (s : Nat → Int) {n i : Int} (h0 : 0 ≤ i) (h1 : i < n) : bkV s n 6 (plV s n 6 i) = i := by
  have p := fun k => plV_bd s h0 h1 k
  have e : ∀ k : Nat, k < 6 → rdV s (k : Int) n (plV s n (k + 1) i) = plV s n k i := fun k _ => rdV_rdV s _ (p k).1 (p k).2
  show rdV s 0 n (rdV s 1 n (rdV s 2 n (rdV s 3 n (rdV s 4 n (rdV s 5 n (plV s n 6 i)))))) = i
  have e5 : rdV s 5 n (plV s n 6 i) = plV s n 5 i := e 5 (by omega)
  have e4 : rdV s 4 n (plV s n 5 i) = plV s n 4 i := e 4 (by omega)
  have e3 : rdV s 3 n (plV s n 4 i) = plV s n 3 i := e 3 (by omega)
  have e2 : rdV s 2 n (plV s n 3 i) = plV s n 2 i := e 2 (by omega)
  have e1 : rdV s 1 n (plV s n 2 i) = plV s n 1 i := e 1 (by omega)
  have e0 : rdV s 0 n (plV s n 1 i) = plV s n 0 i := e 0 (by omega)
  rw [e5, e4, e3, e2, e1, e0]
  rfl
theorem pl_bk (s : Nat → Int) {n i : Int} (h0 : 0 ≤ i) (h1 : i < n) : plV s n 6 (bkV s n 6 i) = i := by
  have p := fun k => bkV_bd s h0 h1 k
  have e : ∀ k : Nat, k < 6 → rdV s (5 - (k : Int)) n (bkV s n (k + 1) i) = bkV s n k i := fun k _ => rdV_rdV s _ (p k).1 (p k).2
  show rdV s 5 n (rdV s 4 n (rdV s 3 n (rdV s 2 n (rdV s 1 n (rdV s 0 n (bkV s n 6 i)))))) = i
  have e5 : rdV s 0 n (bkV s n 6 i) = bkV s n 5 i := e 5 (by omega)
  have e4 : rdV s 1 n (bkV s n 5 i) = bkV s n 4 i := e 4 (by omega)
  have e3 : rdV s 2 n (bkV s n 4 i) = bkV s n 3 i := e 3 (by omega)
  have e2 : rdV s 3 n (bkV s n 3 i) = bkV s n 2 i := e 2 (by omega)
  have e1 : rdV s 4 n (bkV s n 2 i) = bkV s n 1 i := e 1 (by omega)
  have e0 : rdV s 5 n (bkV s n 1 i) = bkV s n 0 i := e 0 (by omega)
  rw [e5, e4, e3, e2, e1, e0]
  rfl
theorem isP_true {i n : Int} (h1 : i < n) (hn : n ≤ 4294967296) : isP i n = true := by unfold isP; simp [h1, hn]

attribute [local go_sem ↓] sv24_eq lv24_eq sv8_eq

set_option maxRecDepth 20000 in
set_option maxHeartbeats 1000000 in
theorem place_no (s : Nat → Int) (i n : Int) (w : World) (h : isP i n = false) :
    Calls Tryd.prog 9 #[.int .u64 i, .int .u64 n, .agg (vs .u8 32 s)] w fun e w' => e = .returned (.tuple #[.int .u64 0, .int .i64 1]) ∧ Below w.heap.size w w' := by
  have hi := fun W : World => isplace_any i n W
  rw [h] at hi
  have HI := hid hi
  clear hi h
  go_enter Tryd.func9, Tryd.ntmps9
  go_wp2_with (go_at_call 16; refine (HI.out _).mono ?_; rintro e w' ⟨rfl, rfl⟩)
  go_ret2
  exact ⟨rfl, (Below.refl _ _).alloc (Nat.le_refl _) _⟩

set_option maxRecDepth 20000 in
set_option maxHeartbeats 1000000 in
theorem place_ok (s : Nat → Int) (i n : Int) (w : World) (hs : ∀ j, j < 32 → 0 ≤ s j ∧ s j < 256) (h0 : 0 ≤ i) (h1 : i < n) (hn : n ≤ 4294967296) (hS : Sh w) :
    Calls Tryd.prog 9 #[.int .u64 i, .int .u64 n, .agg (vs .u8 32 s)] w fun e w' => e = .returned (.tuple #[.int .u64 (plV s n 6 i), .int .i64 0]) ∧ Below w.heap.size w w' := by
  obtain ⟨W0, hW0⟩ : ∃ W, w.alloc (.cells (vs .u8 32 s) 24) = W := ⟨_, rfl⟩
  have r0 : W0.heap[w.heap.size]? = some (.cells (vs .u8 32 s) 24) := by rw [← hW0]; exact heap_new rfl
  have hB0 : Below w.heap.size w W0 := by rw [← hW0]; exact (Below.refl _ _).alloc (Nat.le_refl _) _
  have z0 : w.heap.size < W0.heap.size := (Array.getElem?_eq_some_iff.1 r0).1
  have hi := fun W : World => isplace_any i n W
  rw [isP_true h1 hn] at hi
  have hrd : ∀ (k : Nat) (x : Int) (W : World), k < 6 → 0 ≤ x → x < n → Below W0.heap.size W0 W → Calls Tryd.prog 17 #[.int .u64 x, .int .u64 n, .agg (vs .u8 32 s), .int .u8 (k : Int)] W fun e w' => e = .returned (.int .u64 (rdV s (k : Int) n x)) ∧ Below W.heap.size W w' :=
    fun k x W hk x0 x1 hW => round_any s k n x W hs (by omega) x0 x1 hn ((hS.below hB0).below hW)
  have hl : ∀ W : World, Below W0.heap.size W0 W → (lv24 ⟨w.heap.size, 0, none⟩).run Tryd.prog W = .ok (.agg (vs .u8 32 s)) W := fun W h => lv24_run ((h.block _ z0).trans r0)
  have hpl := fun k => plV_bd s h0 h1 k
  have HI := hid hi
  have HRD := hid hrd
  have HL := hid hl
  have HPL := hid hpl
  have HB0 := hid hB0
  have HW0 := hid hW0
  clear hi hrd hl hpl hB0 hW0 r0 hs hS
  go_enter Tryd.func9, Tryd.ntmps9
  go_upto_region 1 with fail
  rw [HW0.out]
  clear HW0
  go_wp2_with (go_at_call 16; refine (HI.out _).mono ?_; rintro e w' ⟨rfl, hw'⟩; obtain rfl := hw'.symm)
  go_loopw [13, 0] (fun c x wr => ∃ k : Nat, k ≤ 6 ∧ c = .int .i64 k ∧ x = .int .u64 (plV s n k i) ∧ Below W0.heap.size W0 wr) (fun c _ _ => 6 - (intOf c).toNat)
  case atStart => exact ⟨0, by omega, rfl, rfl, Below.refl _ _⟩
  case round =>
    obtain ⟨k, hk, rfl, rfl, hw⟩ := hrel
    obtain ⟨b0, b1⟩ := HPL.out k
    have er : plV s n (k + 1) i = rdV s (k : Int) n (plV s n k i) := rfl
    obtain ⟨X, hX⟩ : ∃ X, plV s n k i = X := ⟨_, rfl⟩
    by_cases hk6 : k < 6
    · rw [hX] at b0 b1 er ⊢
      have hc := HRD.out k X wr hk6 b0 b1 hw
      have l0 := HL.out wr hw
      have k1 : (k : Int) < 6 := by omega
      have k2 : (0 : Int) ≤ (k : Int) := by omega
      have kw : IntKind.u8.wrap (k : Int) = (k : Int) := by rw [IntKind.wrap_u8]; omega
      have HC := hid hc
      have HW := hid hw
      have ER := hid er
      clear hc hw er hX
      go_wp2_with (go_at_call 17; refine HC.out.mono ?_; rintro e w1 ⟨rfl, hb1⟩)
      have hz := HW.out.size
      go_roundw
      case rel => exact ⟨k + 1, by omega, by go_num, by rw [ER.out], HW.out.trans (hb1.mono hz)⟩
      case measure => simp [intOf]; omega
    · obtain rfl : k = 6 := by omega
      have HW := hid hw
      clear hw er hX
      go_wp2
      go_ret2
      exact ⟨rfl, HB0.out.trans (HW.out.mono (by omega))⟩

end Go.Proofs.YtpnlkedbhllhjaaDoor
