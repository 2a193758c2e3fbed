/-
  What MerkleHalves answers, at every input.
-/
import Derived.Test.YtahnlfiahchdeaaDoorMkT
namespace Go.Proofs.YtahnlfiahchdeaaDoor
open Go.RowKit
set_option linter.unusedVariables false
set_option linter.unusedSimpArgs false

theorem treeV_ok (f : Nat → Int) (len d : Nat) (hd : d ≤ 40) (hl : len ≤ 2 ^ d) : treeV f len ((2 ^ d : Nat) : Int) = nd f len d 0 ∧ treeE len ((2 ^ d : Nat) : Int) = 0 := by
  have hp : 2 ^ d ≤ 2 ^ 40 := Nat.pow_le_pow_right (by omega) hd
  have e := dpt_pow d hd
  obtain ⟨X, eX⟩ : ∃ X, 2 ^ d = X := ⟨_, rfl⟩
  rw [eX] at hp hl e ⊢
  have ok : okL (X : Int) := ⟨by omega, by omega⟩
  unfold treeV treeE
  rw [if_pos ⟨ok, by omega⟩, if_pos ok, if_pos (by omega), Int.toNat_natCast, e]
  exact ⟨rfl, rfl⟩
theorem tree_ans {w : World} (hS : Sh w) (a : Option Addr) (len cap : Nat) (f : Nat → Int) (hf : ByB f (32 * len)) (hl : 32 * len ≤ 140737488355328) (d X : Nat) (hd : d ≤ 40) (hX : X = 2 ^ d) (hle : len ≤ X) (W : World) (h : Below w.heap.size w W) (hr : Rts W a len cap f) :
    Calls Tryd.prog 10 #[.slice a len cap, .int .i64 X] W fun e w' => e = .returned (.tuple #[.agg (vs .u8 32 (nd f len d 0)), .int .i64 0]) ∧ Below W.heap.size W w' := by
  have hp : 2 ^ d ≤ 2 ^ 40 := Nat.pow_le_pow_right (by omega) hd
  have hv := treeV_ok f len d hd (by omega)
  rw [← hX] at hv hp
  have ht := tree_any a len cap f X W hr hl hf (hS.below h) (by omega) (by omega)
  rw [hv.1, hv.2] at ht
  exact ht
theorem two_ans {w : World} (hS : Sh w) (A B : Nat → Int) (ha : ∀ j, j < 32 → 0 ≤ A j ∧ A j < 256) (hb : ∀ j, j < 32 → 0 ≤ B j ∧ B j < 256) : AnsT w A B (tw A B) :=
  fun W h => two_tw A B W (hS.below h) ha hb
theorem shf_bd {f : Nat → Int} {n : Nat} (hf : ByB f (32 * n)) (h m : Nat) (hm : h + m ≤ n) : ByB (shf f h) (32 * m) := fun q hq => hf _ (by omega)
theorem ext0_bd {f : Nat → Int} {n : Nat} (hf : ByB f (32 * n)) (m : Nat) : ByB (ext0 f n) m := fun q hq => by
  unfold ext0
  by_cases h : q < 32 * n
  · rw [if_pos h]; exact hf q h
  · rw [if_neg h]; omega

attribute [local go_sem ↓] sv24_eq lv24_eq ix22_eq slr_eq lv48_eq sv48_eq bd48_eq bd27_eq bs22_eq sl22_eq mk22_eq eqo_eq

set_option maxRecDepth 20000 in
set_option maxHeartbeats 1000000 in
theorem halves_any (a : Option Addr) (len cap : Nat) (f : Nat → Int) (n : Int) (w : World) (hS : Sh w) (hr : Rts w a len cap f) (hf : ByB f (32 * len)) (hlc : len ≤ cap) (h0 : -9223372036854775808 ≤ n) (h1 : n ≤ 9223372036854775807) (hl : 32 * len ≤ 140737488355328) :
    Calls Tryd.prog 6 #[.slice a len cap, .int .i64 n] w fun e w' => e = .returned (.bool true) ∧ Below w.heap.size w w' := by
  have haw : ∀ W, Below w.heap.size w W → Calls Tryd.prog 9 #[] W fun e w' => e = .returned (.bool true) ∧ Below w.heap.size w w' := fun W h => (awake_any W (hS.below h)).mono (fun e w' h2 => ⟨h2.1, h.trans (h2.2.mono h.size)⟩)
  by_cases hn : 1 ≤ n ∧ n ≤ 30
  · obtain ⟨d, rfl⟩ : ∃ d : Nat, n = ((d + 1 : Nat) : Int) := ⟨(n - 1).toNat, by omega⟩
    have hd : d ≤ 29 := by omega
    have hs := shl_one (d + 1) (by omega)
    have hp : 2 ^ (d + 1) = 2 * 2 ^ d := by rw [Nat.pow_succ, Nat.mul_comm]
    have hp2 : 2 ^ (d + 2) = 2 * 2 ^ (d + 1) := by rw [Nat.pow_succ, Nat.mul_comm]
    have hpx : 2 ^ (d + 1) ≤ 2 ^ 30 := Nat.pow_le_pow_right (by omega) (by omega)
    obtain ⟨X, eX⟩ : ∃ X, X = 2 ^ (d + 1) := ⟨_, rfl⟩
    obtain ⟨Y, eY⟩ : ∃ Y, Y = 2 ^ d := ⟨_, rfl⟩
    rw [← eX] at hs hp hp2 hpx
    rw [← eY] at hp
    have hX : X ≤ 1073741824 := by omega
    by_cases hle : len ≤ X
    · obtain ⟨h, hh⟩ : ∃ h, h = min (2 ^ d) len := ⟨_, rfl⟩
      have hh' := hh
      rw [← eY] at hh'
      have hsl : ∀ W, (slr (.slice a len cap) none (some (.int .i64 h))).run Tryd.prog W = .ok (.slice (ofs a cap 0) h cap) W := fun W => by
        have := slr_run W a len cap 0 h none (some (.int .i64 h)) (.inr ⟨rfl, rfl⟩) (.inl rfl) (by omega) (by omega) hlc
        exact this
      have hsr : ∀ W, (slr (.slice a len cap) (some (.int .i64 h)) none).run Tryd.prog W = .ok (.slice (ofs a cap h) (len - h) (cap - h)) W := fun W => slr_run W a len cap h len (some (.int .i64 h)) none (.inl rfl) (.inr ⟨rfl, rfl⟩) (by omega) (by omega) hlc
      have hT : AnsR w 10 #[.slice a len cap, .int .i64 X] (nd f len (d + 1) 0) := fun W hb => tree_ans hS a len cap f hf hl (d + 1) X (by omega) eX hle W hb (hr.below hb)
      have hA : AnsR w 10 #[.slice (ofs a cap 0) h cap, .int .i64 Y] (nd f h d 0) := fun W hb => tree_ans hS _ h cap f (fun q hq => hf q (by omega)) (by omega) d Y (by omega) eY (by omega) W hb (by
        have := (hr.below hb).part 0 h (by omega) (by omega)
        simpa using this)
      have hBt : AnsR w 10 #[.slice (ofs a cap h) (len - h) (cap - h), .int .i64 Y] (nd (shf f h) (len - h) d 0) := fun W hb => tree_ans hS _ (len - h) (cap - h) (shf f h) (shf_bd hf h _ (by omega)) (by omega) d Y (by omega) eY (by omega) W hb ((hr.below hb).part h len (by omega) (by omega))
      have hT2 : AnsR w 10 #[.slice a len cap, .int .i64 (2 * X : Nat)] (nd f len (d + 2) 0) := fun W hb => tree_ans hS a len cap f hf hl (d + 2) (2 * X) (by omega) (by omega) (by omega) W hb (hr.below hb)
      have hZ : AnsR w 13 #[.int .i64 ((d + 1 : Nat) : Int)] (zr (d + 1)) := fun W hb => by
        have hz := zero_any ((d + 1 : Nat) : Int) W (hS.below hb) (by omega) (by omega)
        unfold zeroV zeroE at hz
        rw [if_pos (by omega), if_pos (by omega), Int.toNat_natCast] at hz
        exact hz
      have bT := fun j hj => nd_bd hf (d + 1) 0 j hj
      have hU1 := two_ans hS (nd f h d 0) (nd (shf f h) (len - h) d 0) (fun j hj => nd_bd (fun q hq => hf q (by omega)) d 0 j hj) (fun j hj => nd_bd (shf_bd hf h (len - h) (by omega)) d 0 j hj)
      have hU2 := two_ans hS (nd f len (d + 1) 0) (zr (d + 1)) bT (fun j _ => zr_bd _ j)
      have e1 : eqR (nd f len (d + 1) 0) (tw (nd f h d 0) (nd (shf f h) (len - h) d 0)) = true := by
        have := eqR_congr (c := nd f len (d + 1) 0) (c' := tw (nd f h d 0) (nd (shf f h) (len - h) d 0)) (d := tw (nd f h d 0) (nd (shf f h) (len - h) d 0)) (d' := tw (nd f h d 0) (nd (shf f h) (len - h) d 0)) (fun j hj => tw_congr (nd_left f len d h hh) (nd_right f len d h hh) j hj) (fun _ _ => rfl)
        rw [this]
        exact eqR_self _
      have e2 : eqR (nd f len (d + 2) 0) (tw (nd f len (d + 1) 0) (zr (d + 1))) = true := by
        have hz := nd_zero f len (d + 1) 1 (up_pow len (d + 1) (by omega))
        have : nd f len (d + 2) 0 = tw (nd f len (d + 1) 0) (zr (d + 1)) := by
          show tw (nd f len (d + 1) 0) (nd f len (d + 1) 1) = _
          rw [hz]
        rw [this]
        exact eqR_self _
      have e3 : eqR (nd (ext0 f len) (len + 1) (d + 1) 0) (nd f len (d + 1) 0) = true := by
        have := eqR_congr (c := nd (ext0 f len) (len + 1) (d + 1) 0) (c' := nd f len (d + 1) 0) (d := nd f len (d + 1) 0) (d' := nd f len (d + 1) 0) (nd_more f (ext0 f len) len (d + 1) (fun q hq => ext0_lo f len q hq) (fun q _ => ext0_hi f len q)) (fun _ _ => rfl)
        rw [this]
        exact eqR_self _
      have hM : len < X → ∀ W a' cap', Below w.heap.size w W → Rts W a' (len + 1) cap' (ext0 f len) → Calls Tryd.prog 10 #[.slice a' (len + 1) cap', .int .i64 X] W fun e w' => e = .returned (.tuple #[.agg (vs .u8 32 (nd (ext0 f len) (len + 1) (d + 1) 0)), .int .i64 0]) ∧ Below W.heap.size W w' := fun hlt W a' cap' hb hrr => tree_ans hS a' (len + 1) cap' (ext0 f len) (ext0_bd hf _) (by omega) (d + 1) X (by omega) eX (by omega) W hb hrr
      by_cases hyl : Y < len
      · exact halves_core1 a len cap (d + 1) X (2 * X) Y h f _ _ _ _ _ _ _ _ _ _ _ _ w (by omega) (by omega) hX hs hp rfl hle hyl (by omega) haw hsl hsr hT hA hBt hT2 hZ hU1 hU2 e1 e2 e3 hr hM
      · exact halves_core2 a len cap (d + 1) X (2 * X) Y h f _ _ _ _ _ _ _ _ _ _ _ _ w (by omega) (by omega) hX hs hp rfl hle (by omega) (by omega) haw hsl hsr hT hA hBt hT2 hZ hU1 hU2 e1 e2 e3 hr hM
    · have HAW := hid haw
      obtain ⟨D, eD⟩ : ∃ D, D = d + 1 := ⟨_, rfl⟩
      rw [← eD] at hs ⊢
      have d1 : decide (D < 1) = false := by simp; omega
      have d2 : decide ((D : Int) < 1) = false := by simp; omega
      have d3 : decide (30 < D) = false := by simp; omega
      have d4 : decide ((30 : Int) < (D : Int)) = false := by simp; omega
      have d5 : decide (X < len) = true := by simp; omega
      have d6 : decide ((X : Int) < (len : Int)) = true := by simp; omega
      have hD2 : D ≤ 30 := by omega
      have hbr : Below w.heap.size w w := Below.refl _ _
      have HBR := hid hbr
      clear hS hr hf haw h0 h1 hn hp hp2 hpx eX eY eD hle hbr
      go_enter Tryd.func6, Tryd.ntmps6
      go_wp2_with (go_at_call 9; refine (HAW.out _ HBR.out).mono ?_; rintro e wa ⟨rfl, hba⟩)
      go_ret
      exact ⟨rfl, hba⟩
  · have HAW := hid haw
    have hbr : Below w.heap.size w w := Below.refl _ _
    have HBR := hid hbr
    clear hS hr hf haw hbr
    by_cases hn1 : n < 1
    · have d1 : decide (n < 1) = true := by simp; omega
      clear hn
      go_enter Tryd.func6, Tryd.ntmps6
      go_wp2_with (go_at_call 9; refine (HAW.out _ HBR.out).mono ?_; rintro e wa ⟨rfl, hba⟩)
      go_ret
      exact ⟨rfl, hba⟩
    · have d1 : decide (n < 1) = false := by simp; omega
      have d2 : decide (30 < n) = true := by simp; omega
      clear hn
      go_enter Tryd.func6, Tryd.ntmps6
      go_wp2_with (go_at_call 9; refine (HAW.out _ HBR.out).mono ?_; rintro e wa ⟨rfl, hba⟩)
      go_ret
      exact ⟨rfl, hba⟩

end Go.Proofs.YtahnlfiahchdeaaDoor
