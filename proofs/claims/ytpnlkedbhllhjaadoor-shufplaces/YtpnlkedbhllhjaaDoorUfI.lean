/-
  What ShufPlaces answers.
-/
import Derived.Test.YtpnlkedbhllhjaaDoorUfF
import Derived.Test.YtpnlkedbhllhjaaDoorUfH
namespace Go.Proofs.YtpnlkedbhllhjaaDoor
open Go.RowKit
set_option linter.unusedVariables false
set_option linter.unusedSimpArgs false

/-- What a call answers, wherever the blocks below w stand. -/
def Ans (w : World) (f : FuncId) (args : Array Value) (v : Value) : Prop :=
  ∀ W, Below w.heap.size w W → Calls Tryd.prog f args W fun e w' => e = .returned v ∧ Below W.heap.size W w'

attribute [local go_sem ↓] sv24_eq lv24_eq sv8_eq bd27_eq

set_option maxRecDepth 20000 in
set_option maxHeartbeats 2000000 in
theorem places_any (s : Nat → Int) (i n : Int) (w : World) (hs : ∀ j, j < 32 → 0 ≤ s j ∧ s j < 256) (h0 : 0 ≤ i) (hn0 : 0 ≤ n) (hS : Sh w) (hC : Tab w 0 64 KW) :
    Calls Tryd.prog 3 #[.int .u64 i, .int .u64 n, .agg (vs .u8 32 s)] w fun e w' => e = .returned (.bool true) ∧ Below w.heap.size w w' := by
  obtain ⟨W0, hW0⟩ : ∃ W, w.alloc (.cells (vs .u8 32 s) 24) = W := ⟨_, rfl⟩
  have r0 : W0.heap[w.heap.size]? = some (.cells (vs .u8 32 s) 24) := by rw [← hW0]; exact heap_new rfl
  have hB0 : Below w.heap.size w W0 := by rw [← hW0]; exact (Below.refl _ _).alloc (Nat.le_refl _) _
  have z0 : w.heap.size < W0.heap.size := (Array.getElem?_eq_some_iff.1 r0).1
  have hS0 := hS.below hB0
  have hC0 := hC.below hB0
  have hl : ∀ W : World, Below W0.heap.size W0 W → (lv24 ⟨w.heap.size, 0, none⟩).run Tryd.prog W = .ok (.agg (vs .u8 32 s)) W := fun W h => lv24_run ((h.block _ z0).trans r0)
  have haw : Ans W0 8 #[] (.bool true) := fun W h => awake_any W (hS0.below h)
  have HL := hid hl
  have HAW := hid haw
  have HB0 := hid hB0
  have HW0 := hid hW0
  clear hl haw hB0 hW0 r0
  cases h : isP i n
  · have hP : Ans W0 9 #[.int .u64 i, .int .u64 n, .agg (vs .u8 32 s)] (.tuple #[.int .u64 0, .int .i64 1]) := fun W _ => place_no s i n W h
    have hRP : Ans W0 10 #[.int .u64 i, .int .u64 n, .agg (vs .u8 32 s)] (.tuple #[.int .u64 0, .int .i64 1]) := fun W _ => rplace_no s i n W h h0
    have hBk : Ans W0 11 #[.int .u64 i, .int .u64 n, .agg (vs .u8 32 s)] (.tuple #[.int .u64 0, .int .i64 1]) := fun W _ => back_no s i n W h
    have hRB : Ans W0 12 #[.int .u64 i, .int .u64 n, .agg (vs .u8 32 s)] (.tuple #[.int .u64 0, .int .i64 1]) := fun W _ => rback_no s i n W h h0
    have HP := hid hP
    have HRP := hid hRP
    have HBK := hid hBk
    have HRB := hid hRB
    clear hP hRP hBk hRB h hS hC hS0 hC0 hs
    go_enter Tryd.func3, Tryd.ntmps3
    go_upto_region 1 with fail
    rw [HW0.out]
    clear HW0
    go_upto_region 3 with (go_at_call 8; refine (HAW.out _ (Below.refl _ _)).mono ?_; rintro e w1 ⟨rfl, hb1⟩)
    have hB1 := hb1
    have HB1 := hid hB1
    clear hB1 hb1
    have l := HL.out _ HB1.out
    go_upto_region 4 with (go_at_call 9; refine (HP.out _ HB1.out).mono ?_; rintro e w2 ⟨rfl, hb2⟩)
    have hB2 := HB1.out.trans (hb2.mono HB1.out.size)
    have HB2 := hid hB2
    clear hB2 hb2
    clear HB1 l
    have l := HL.out _ HB2.out
    go_upto_region 5 with (go_at_call 10; refine (HRP.out _ HB2.out).mono ?_; rintro e w3 ⟨rfl, hb3⟩)
    have hB3 := HB2.out.trans (hb3.mono HB2.out.size)
    have HB3 := hid hB3
    clear hB3 hb3
    clear HB2 l
    have l := HL.out _ HB3.out
    go_upto_region 6 with (go_at_call 11; refine (HBK.out _ HB3.out).mono ?_; rintro e w4 ⟨rfl, hb4⟩)
    have hB4 := HB3.out.trans (hb4.mono HB3.out.size)
    have HB4 := hid hB4
    clear hB4 hb4
    clear HB3 l
    have l := HL.out _ HB4.out
    go_wp2_with (go_at_call 12; refine (HRB.out _ HB4.out).mono ?_; rintro e w5 ⟨rfl, hb5⟩)
    have hB5 := HB4.out.trans (hb5.mono HB4.out.size)
    have HB5 := hid hB5
    clear hB5 hb5
    clear HB4 l
    go_ret
    exact ⟨rfl, HB0.out.trans (HB5.out.mono (by omega))⟩
  · have hb : i < n ∧ n ≤ 4294967296 := by
      unfold isP at h
      simp at h
      exact ⟨h.2, h.1⟩
    obtain ⟨h1, hn⟩ := hb
    obtain ⟨a0, a1⟩ := plV_bd s h0 h1 6
    obtain ⟨c0, c1⟩ := bkV_bd s h0 h1 6
    have hP : Ans W0 9 #[.int .u64 i, .int .u64 n, .agg (vs .u8 32 s)] (.tuple #[.int .u64 (plV s n 6 i), .int .i64 0]) := fun W h => place_ok s i n W hs h0 h1 hn (hS0.below h)
    have hRP : Ans W0 10 #[.int .u64 i, .int .u64 n, .agg (vs .u8 32 s)] (.tuple #[.int .u64 (plV s n 6 i), .int .i64 0]) := fun W h => rplace_ok s i n W hs h0 h1 hn (hC0.below h)
    have hBk : Ans W0 11 #[.int .u64 i, .int .u64 n, .agg (vs .u8 32 s)] (.tuple #[.int .u64 (bkV s n 6 i), .int .i64 0]) := fun W h => back_ok s i n W hs h0 h1 hn (hS0.below h)
    have hRB : Ans W0 12 #[.int .u64 i, .int .u64 n, .agg (vs .u8 32 s)] (.tuple #[.int .u64 (bkV s n 6 i), .int .i64 0]) := fun W h => rback_ok s i n W hs h0 h1 hn (hC0.below h)
    have hBA : Ans W0 11 #[.int .u64 (plV s n 6 i), .int .u64 n, .agg (vs .u8 32 s)] (.tuple #[.int .u64 i, .int .i64 0]) := fun W h => by
      have := back_ok s (plV s n 6 i) n W hs a0 a1 hn (hS0.below h)
      rwa [bk_pl s h0 h1] at this
    have hPC : Ans W0 9 #[.int .u64 (bkV s n 6 i), .int .u64 n, .agg (vs .u8 32 s)] (.tuple #[.int .u64 i, .int .i64 0]) := fun W h => by
      have := place_ok s (bkV s n 6 i) n W hs c0 c1 hn (hS0.below h)
      rwa [pl_bk s h0 h1] at this
    generalize plV s n 6 i = A at *
    generalize bkV s n 6 i = C at *
    have HBA := hid hBA
    have HPC := hid hPC
    clear hBA hPC
    have HP := hid hP
    have HRP := hid hRP
    have HBK := hid hBk
    have HRB := hid hRB
    clear hP hRP hBk hRB h hS hC hS0 hC0 hs
    go_enter Tryd.func3, Tryd.ntmps3
    go_upto_region 1 with fail
    rw [HW0.out]
    clear HW0
    go_upto_region 3 with (go_at_call 8; refine (HAW.out _ (Below.refl _ _)).mono ?_; rintro e w1 ⟨rfl, hb1⟩)
    have hB1 := hb1
    have HB1 := hid hB1
    clear hB1 hb1
    have l := HL.out _ HB1.out
    go_upto_region 4 with (go_at_call 9; refine (HP.out _ HB1.out).mono ?_; rintro e w2 ⟨rfl, hb2⟩)
    have hB2 := HB1.out.trans (hb2.mono HB1.out.size)
    have HB2 := hid hB2
    clear hB2 hb2
    clear HB1 l
    have l := HL.out _ HB2.out
    go_upto_region 5 with (go_at_call 10; refine (HRP.out _ HB2.out).mono ?_; rintro e w3 ⟨rfl, hb3⟩)
    have hB3 := HB2.out.trans (hb3.mono HB2.out.size)
    have HB3 := hid hB3
    clear hB3 hb3
    clear HB2 l
    have l := HL.out _ HB3.out
    go_upto_region 6 with (go_at_call 11; refine (HBK.out _ HB3.out).mono ?_; rintro e w4 ⟨rfl, hb4⟩)
    have hB4 := HB3.out.trans (hb4.mono HB3.out.size)
    have HB4 := hid hB4
    clear hB4 hb4
    clear HB3 l
    have l := HL.out _ HB4.out
    go_upto_region 11 with (go_at_call 12; refine (HRB.out _ HB4.out).mono ?_; rintro e w5 ⟨rfl, hb5⟩)
    have hB5 := HB4.out.trans (hb5.mono HB4.out.size)
    have HB5 := hid hB5
    clear hB5 hb5
    clear HB4 l
    have l := HL.out _ HB5.out
    go_upto_region 12 with (go_at_call 11; refine (HBA.out _ HB5.out).mono ?_; rintro e w6 ⟨rfl, hb6⟩)
    have hB6 := HB5.out.trans (hb6.mono HB5.out.size)
    have HB6 := hid hB6
    clear hB6 hb6
    clear HB5 l
    have l := HL.out _ HB6.out
    go_wp2_with (go_at_call 9; refine (HPC.out _ HB6.out).mono ?_; rintro e w7 ⟨rfl, hb7⟩)
    have hB7 := HB6.out.trans (hb7.mono HB6.out.size)
    have HB7 := hid hB7
    clear hB7 hb7
    clear HB6 l
    go_ret
    exact ⟨rfl, HB0.out.trans (HB7.out.mono (by omega))⟩

end Go.Proofs.YtpnlkedbhllhjaaDoor
