/-
  What Tree answers.
-/
import Derived.Test.YtjimdkpppgjokaaDoorMkG
namespace Go.Proofs.YtjimdkpppgjokaaDoor
open Go.RowKit
set_option linter.unusedVariables false
set_option linter.unusedSimpArgs false

attribute [local go_sem ↓] sv24_eq lv24_eq ix22_eq slr_eq lv48_eq sv48_eq bd48_eq bd27_eq bs22_eq

/-- Tree's answer: the root and the error. -/
def okL (n : Int) : Prop := 0 ≤ n ∧ n ≤ 1099511627776
instance (n : Int) : Decidable (okL n) := inferInstanceAs (Decidable (0 ≤ n ∧ n ≤ 1099511627776))
def treeV (f : Nat → Int) (len : Nat) (n : Int) : Nat → Int := if okL n ∧ (len : Int) ≤ n then nd f len (dpt n.toNat) 0 else fun _ => 0
def treeE (len : Nat) (n : Int) : Int := if okL n then (if (len : Int) ≤ n then 0 else 6) else 1
theorem treeV_bd {f : Nat → Int} {len : Nat} (hf : ByB f (32 * len)) (n : Int) (j : Nat) (hj : j < 32) : 0 ≤ treeV f len n j ∧ treeV f len n j < 256 := by
  unfold treeV
  by_cases h : okL n ∧ (len : Int) ≤ n
  · rw [if_pos h]; exact nd_bd hf _ _ _ hj
  · rw [if_neg h]; omega
/-- What the walk of a tree's rows keeps: the blocks below B, the row's block q after k steps. -/
def LvSt (B q : Nat) (w : World) (a : Option Addr) (cap : Nat) (f : Nat → Int) (len k : Nat) (W : World) : Prop :=
  Below B w W ∧ RowR W B q a (up len k) cap (ndf f len k) ∧ ∃ z, z ≤ k ∧ W.heap[q]? = some (.cells (rwA (.slice a (up len k) cap) (k : Nat) (zr z) z) 68)
theorem LvSt.rise {B q : Nat} {w : World} {a : Option Addr} {cap : Nat} {f : Nat → Int} {len k : Nat} {W : World} (h : LvSt B q w a cap f len k W) (hS : Sh w) (hB : 3 ≤ B) (hBq : B ≤ q) (hf : ByB f (32 * len)) (hl : len ≤ 140737488355328) (hk : k ≤ 100) :
    Calls Tryd.prog 37 #[.pointer (some ⟨q, 0, none⟩)] W fun e w' => e = .returned (.tuple #[]) ∧ LvSt B q w a cap f len (k + 1) w' := by
  obtain ⟨h1, h2, z, h3, h4⟩ := h
  have := up_le len k
  refine (rise_any B q a (up len k) cap k z (ndf f len k) W (hS.low hB h1) hB hBq h4 h2 (ndf_bd hf k _) (by omega) h3 (by omega)).mono ?_
  rintro e w' ⟨rfl, hb, hr, z', hz', hg⟩
  exact ⟨rfl, h1.trans hb, hr.congr (fun q _ => ndf_up f len k q), z', by omega, hg⟩
theorem LvSt.at {B q : Nat} {w : World} {a : Option Addr} {cap : Nat} {f : Nat → Int} {len k : Nat} {W : World} (h : LvSt B q w a cap f len k W) (hS : Sh w) (hB : 3 ≤ B) (hBq : B ≤ q) (hk : k ≤ 100) (i : Nat) (hi : i ≤ 9223372036854775807) :
    Calls Tryd.prog 38 #[.pointer (some ⟨q, 0, none⟩), .int .i64 i] W fun e w' => e = .returned (.agg (vs .u8 32 (nd f len k i))) ∧ LvSt B q w a cap f len k w' := by
  obtain ⟨h1, h2, z, h3, h4⟩ := h
  refine (at_any q a (up len k) cap k z i (ndf f len k) W (hS.low hB h1) h4 (by omega) (by omega) h2.rts hi h3 (by omega)).mono ?_
  rintro e w' ⟨rfl, hkp, z', hz', hg⟩
  have := (Array.getElem?_eq_some_iff.1 h4).1
  exact ⟨by rw [vs_congr fun j hj => ndf_get f len k i j hj], h1.trans (hkp.below hBq (by omega)), h2.kept hkp, z', hz', hg⟩
/-- The lowest row, laid. -/
theorem lvst_zero {B : Nat} {w W : World} {a : Option Addr} {cap : Nat} {f : Nat → Int} {len : Nat} (hb : Below B w W) (hr : RowR W B W.heap.size a len cap f) (hBw : B ≤ W.heap.size) : LvSt B W.heap.size w a cap f len 0 (W.alloc (.cells (rwA (.slice a len cap) 0 (zr 0) 0) 68)) := by
  refine ⟨hb.alloc hBw _, (hr.move ((Below.refl _ _).alloc (Nat.le_refl _) _) (Nat.le_refl _)).congr (fun q hq => ndf_zero f len q hq), 0, Nat.le_refl _, heap_new rfl⟩

set_option maxRecDepth 20000 in
set_option maxHeartbeats 1000000 in
theorem tree_any (a : Option Addr) (len cap : Nat) (f : Nat → Int) (n : Int) (w : World) (hr : Rts w a len cap f) (hl : 32 * len ≤ 140737488355328) (hf : ByB f (32 * len)) (hS : Sh w) (h0 : -9223372036854775808 ≤ n) (h1 : n ≤ 9223372036854775807) :
    Calls Tryd.prog 23 #[.slice a len cap, .int .i64 n] w fun e w' => e = .returned (.tuple #[.agg (vs .u8 32 (treeV f len n)), .int .i64 (treeE len n)]) ∧ Below w.heap.size w w' := by
  have z := zero_root
  have z2 := zero_row
  have HS := hid hS
  have HR := hid hr
  have HF := hid hf
  clear hS hr hf
  have hil := fun W => isLimit_any n W h0 h1
  by_cases hn : okL n
  · rw [decide_eq_true (show 0 ≤ n ∧ n ≤ 1099511627776 from hn)] at hil
    have HIL := hid hil
    by_cases hle : (len : Int) ≤ n
    · unfold treeV treeE
      rw [if_pos ⟨hn, hle⟩, if_pos hn, if_pos hle]
      obtain ⟨m, rfl⟩ : ∃ m : Nat, n = (m : Int) := ⟨n.toNat, by have := hn.1; omega⟩
      have hm : m ≤ 1099511627776 := by have := hn.2; omega
      rw [Int.toNat_natCast]
      have hD := fun W => depthOf_any m W hm
      have hD2 := dpt_le m hm
      have hD3 := dpt_ge m hm
      generalize dpt m = D at hD hD2 hD3 ⊢
      have HD := hid hD
      have bb : decide ((m : Int) < (len : Int)) = false := by simp; omega
      have bb2 : decide (m < len) = false := by simp; omega
      have hlm : len ≤ 2 ^ D := by omega
      have HD3 := hid hlm
      clear hil hD hn h0 h1 hle hD3 hlm
      go_enter Tryd.func23, Tryd.ntmps23
      go_upto_region 5 with (go_at_call 34; refine (HIL.out _).mono ?_; rintro e w1 ⟨rfl, rfl⟩)
      obtain ⟨W0, hW0⟩ : ∃ W, w.alloc (.cells (vs .u8 32 fun _ => 0) 33) = W := ⟨_, rfl⟩
      rw [hW0]
      have hB0 : Below w.heap.size w W0 := by rw [← hW0]; go_grown
      have r0 : W0.heap[w.heap.size]? = some (.cells (vs .u8 32 fun _ => 0) 33) := by rw [← hW0]; exact heap_new rfl
      have z0 : W0.heap.size = w.heap.size + 1 := by rw [← hW0]; simp
      have hlo := lowest_any a len cap f W0 (HR.out.below hB0) hl
      have HLO := hid hlo
      have H0 := hid (And.intro hB0 (And.intro r0 z0))
      clear hlo hB0 r0 z0 hW0 HIL
      go_upto_region 6 with (go_at_call 35; refine HLO.out.mono ?_; rintro e w1 ⟨a', cap', rfl, hb1, hrow⟩; have sv := sv48_new w1 a' none len cap' 0 0 0 0 0 0 (zr 0) (fun _ => 0))
      obtain ⟨hB0, r0, z0⟩ := H0.out
      have hs0 := hb1.size
      have hst := lvst_zero (w := W0) (hb1.mono (Nat.le_refl _)) hrow hs0
      obtain ⟨W2, hW2⟩ : ∃ W, w1.alloc (.cells (rwA (.slice a' len cap') 0 (zr 0) 0) 68) = W := ⟨_, rfl⟩
      rw [hW2] at hst ⊢
      obtain ⟨q, hq⟩ : ∃ q, w1.heap.size = q := ⟨_, rfl⟩
      rw [hq] at hst hs0 ⊢
      have hw := HS.out.2.1
      have HS0 := hid (HS.out.below hB0)
      have hB3 : 3 ≤ W0.heap.size := by omega
      have HB0 := hid hB0
      have R0 := hid r0
      have HZ0 := hid z0
      have HST := hid hst
      clear hst hrow hb1 hW2 hq H0 HLO hB0 r0 z0 hw sv z z2
      go_wp2_with (go_at_call 36; refine (HD.out _).mono ?_; rintro e w3 ⟨rfl, rfl⟩)
      go_loopw [20] (fun i wr => ∃ k : Nat, k ≤ D ∧ i = .int .i64 k ∧ LvSt W0.heap.size q W0 a' cap' f len k wr) (fun i _ => D - (intOf i).toNat)
      case atStart => exact ⟨0, by omega, rfl, HST.out⟩
      case round =>
        clear HST
        obtain ⟨k, hk, rfl, hst⟩ := hrel
        by_cases hlt : k < D
        · have b3 : decide (k < D) = true := by simp; omega
          have hri := hst.rise HS0.out hB3 hs0 HF.out (by omega) (by omega)
          have HRI := hid hri
          clear hri hst
          go_wp2_with (go_at_call 37; refine HRI.out.mono ?_; rintro e w4 ⟨rfl, hst4⟩)
          go_roundw
          case rel => exact ⟨k + 1, by omega, by go_num, hst4⟩
          case measure => simp [intOf]; omega
        · have ek : k = D := by omega
          subst ek
          have b3 : decide (k < k) = false := by simp
          have hat := hst.at HS0.out hB3 hs0 (by omega) 0 (by omega)
          rw [show ((0 : Nat) : Int) = 0 from rfl] at hat
          have HAT := hid hat
          clear hat hst
          go_wp2_with (go_at_call 38; refine HAT.out.mono ?_; rintro e w4 ⟨rfl, hst4⟩; have sv := sv24_run ((hst4.1.block w.heap.size (by rw [HZ0.out]; omega)).trans R0.out) (nd f len k 0))
          refine ret24s 4 5 w.heap.size _ 33 _ rfl rfl rfl rfl (setRow_at ((hst4.1.block w.heap.size (by rw [HZ0.out]; omega)).trans R0.out)) ⟨rfl, ?_⟩
          exact below_row (HB0.out.trans (hst4.1.mono (by rw [HZ0.out]; omega))) (Nat.le_refl _) _
    · unfold treeV treeE
      rw [if_neg (fun h => hle h.2), if_pos hn, if_neg hle]
      obtain ⟨m, rfl⟩ : ∃ m : Nat, n = (m : Int) := ⟨n.toNat, by have := hn.1; omega⟩
      have bb : decide ((m : Int) < (len : Int)) = true := by simp; omega
      have bb2 : decide (m < len) = true := by simp; omega
      have b0 := bd27_0
      have sv := sv24_newv w (fun _ => 0) (fun _ => 0)
      clear hil hn h0 h1 hle
      go_enter Tryd.func23, Tryd.ntmps23
      go_wp2_with (go_at_call 34; refine (HIL.out _).mono ?_; rintro e w1 ⟨rfl, rfl⟩)
      refine ret24s 4 5 w.heap.size _ 33 _ rfl rfl rfl rfl (heap_new rfl) ⟨rfl, ?_⟩
      go_grown
  · rw [decide_eq_false (show ¬ (0 ≤ n ∧ n ≤ 1099511627776) from hn)] at hil
    have HIL := hid hil
    unfold treeV treeE
    rw [if_neg (fun h => hn h.1), if_neg hn]
    have b0 := bd27_0
    have sv := sv24_newv w (fun _ => 0) (fun _ => 0)
    clear hil hn
    go_enter Tryd.func23, Tryd.ntmps23
    go_wp2_with (go_at_call 34; refine (HIL.out _).mono ?_; rintro e w1 ⟨rfl, rfl⟩)
    refine ret24s 4 5 w.heap.size _ 33 _ rfl rfl rfl rfl (heap_new rfl) ⟨rfl, ?_⟩
    go_grown

end Go.Proofs.YtjimdkpppgjokaaDoor
