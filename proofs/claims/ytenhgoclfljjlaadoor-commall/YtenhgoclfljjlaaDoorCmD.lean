/-
  What the program's functions of layer 14 have to answer, and the statements' own awake.
-/

import Derived.Test.YtenhgoclfljjlaaDoorCmC
namespace Go.Proofs.YtenhgoclfljjlaaDoor

open Go.RowKit

set_option linter.unusedVariables false

set_option linter.unusedSimpArgs false

set_option maxRecDepth 100000

/-- What the program's functions have to answer. -/
def PCount : Prop := ∀ (x : VState) (e : Int) (w : World), OkState x → Lk w x → 0 ≤ e → e < 18446744073709551616 → Calls Tryd.prog 8 #[.agg (cel (sState x)), .int .u64 e] w fun e' w' => e' = .returned (.int .u64 (cnt (acE x e).length : Nat)) ∧ Below w.heap.size w w'

def POf : Prop := ∀ (x : VState) (sl ix : Int) (w : World), OkState x → Lk w x → Sh w → 0 ≤ sl → sl < 18446744073709551616 → 0 ≤ ix → ix < 18446744073709551616 → Calls Tryd.prog 10 #[.agg (cel (sState x)), .int .u64 sl, .int .u64 ix] w (OfA x sl ix w)

theorem few_act (e : Int) (h0 : 0 ≤ e) (h1 : e < 18446744073709551615) : ∀ n, (acL (fun _ => oV2) e n).length = n
  | 0 => rfl
  | n + 1 => by
    have hb : actB oV2 e = true := by
      unfold actB
      rw [Bool.and_eq_true, decide_eq_true_eq, decide_eq_true_eq]
      exact ⟨h0, h1⟩
    unfold acL
    rw [if_pos hb, List.length_append, few_act e h0 h1 n]
    rfl

theorem few_len {n : Nat} {x : VState} (h : FewS n x) (e : Int) (h0 : 0 ≤ e) (h1 : e < 18446744073709551615) : (acE x e).length = n := by
  unfold acE
  rw [h.2, h.1]
  exact few_act e h0 h1 n

set_option maxHeartbeats 4000000 in
theorem awake14 (pC : PCount) (pO : POf) (w : World) (hS : Sh w) :
    Calls Tryd.prog 6 #[] w fun e' w' => e' = .returned (.bool true) ∧ Below w.heap.size w w' := by
  have hf16 : ∀ W : World, Calls Tryd.prog 16 #[.int .i64 16] W fun e w' => ∃ x, e = .returned (.agg (cel (sState x))) ∧ FewS 16 x ∧ Lk w' x ∧ OkState x ∧ Below W.heap.size W w' := fun W => few_any 16 (by omega) W
  have hf3 : ∀ W : World, Calls Tryd.prog 16 #[.int .i64 3] W fun e w' => ∃ x, e = .returned (.agg (cel (sState x))) ∧ FewS 3 x ∧ Lk w' x ∧ OkState x ∧ Below W.heap.size W w' := fun W => few_any 3 (by omega) W
  have ho1 : ∀ (W : World) x, FewS 16 x → Lk W x → OkState x → Below w.heap.size w W → Calls Tryd.prog 10 #[.agg (cel (sState x)), .int .u64 2, .int .u64 1] W fun e' w' => ∃ a c, e' = .returned (.tuple #[.slice a 2 c, .int .i64 0]) ∧ Below W.heap.size W w' := fun W x h1 h2 h3 h4 => by
    refine (pO x 2 1 W h3 h2 (hS.below h4) (by omega) (by omega) (by omega) (by omega)).mono ?_
    rintro e' w' ⟨a, c, rfl, _, hb⟩
    rw [few_len h1 (2 / 4) (by omega) (by omega)]
    exact ⟨a, c, rfl, hb⟩
  have ho2 : ∀ (W : World) x, FewS 16 x → Lk W x → OkState x → Below w.heap.size w W → Calls Tryd.prog 10 #[.agg (cel (sState x)), .int .u64 2, .int .u64 2] W fun e' w' => ∃ a c, e' = .returned (.tuple #[.slice a 0 c, .int .i64 1]) ∧ Below W.heap.size W w' := fun W x h1 h2 h3 h4 => by
    refine (pO x 2 2 W h3 h2 (hS.below h4) (by omega) (by omega) (by omega) (by omega)).mono ?_
    rintro e' w' ⟨a, c, rfl, _, hb⟩
    rw [few_len h1 (2 / 4) (by omega) (by omega)]
    exact ⟨a, c, rfl, hb⟩
  have hc : ∀ (W : World) x, FewS 3 x → Lk W x → OkState x → Calls Tryd.prog 8 #[.agg (cel (sState x)), .int .u64 0] W fun e' w' => e' = .returned (.int .u64 1) ∧ Below W.heap.size W w' := fun W x h1 h2 h3 => by
    have := pC x 0 W h3 h2 (by omega) (by omega)
    rw [few_len h1 0 (by omega) (by omega)] at this
    exact this
  have HF16 := hid hf16
  have HF3 := hid hf3
  have HO1 := hid ho1
  have HO2 := hid ho2
  have HC := hid hc
  clear hf16 hf3 ho1 ho2 hc hS pC pO
  go_enter Tryd.func6, Tryd.ntmps6
  go_upto_region 2 with (first
    | (go_at_call 16; refine (HF16.out _).mono ?_; rintro e' w1 ⟨x1, rfl, hs1, hl1, hk1, hb1⟩)
    | (go_at_call 10; refine (HO1.out _ _ hs1 hl1 hk1 hb1).mono ?_; rintro e' w2 ⟨a2, c2, rfl, hb2⟩; have hB2 := hb1.trans (hb2.mono hb1.size)))
  clear hs1 hl1 hk1 hb1 hb2
  go_upto_region 3 with (first
    | (go_at_call 16; refine (HF16.out _).mono ?_; rintro e' w3 ⟨x3, rfl, hs3, hl3, hk3, hb3⟩; have hB3 := hB2.trans (hb3.mono hB2.size))
    | (go_at_call 10; refine (HO2.out _ _ hs3 hl3 hk3 hB3).mono ?_; rintro e' w4 ⟨a4, c4, rfl, hb4⟩; have hB4 := hB3.trans (hb4.mono hB3.size)))
  clear hs3 hl3 hk3 hb3 hb4 hB3 hB2
  go_wp2_with (first
    | (go_at_call 16; refine (HF3.out _).mono ?_; rintro e' w5 ⟨x5, rfl, hs5, hl5, hk5, hb5⟩; have hB5 := hB4.trans (hb5.mono hB4.size))
    | (go_at_call 8; refine (HC.out _ _ hs5 hl5 hk5).mono ?_; rintro e' w6 ⟨rfl, hb6⟩; have hB6 := hB5.trans (hb6.mono hB5.size)))
  go_ret
  exact ⟨rfl, hB6⟩

end Go.Proofs.YtenhgoclfljjlaaDoor
