/-
  What the reference's Branch answers at every input; what MerkleBranches answers.
-/
import Derived.Test.YtahnlfiahchdeaaDoorMbC
import Derived.Test.YtahnlfiahchdeaaDoorMkZ
namespace Go.Proofs.YtahnlfiahchdeaaDoor
open Go.RowKit
set_option linter.unusedVariables false
set_option linter.unusedSimpArgs false

attribute [local go_sem ↓] sv24_eq lv24_eq ix22_eq slr_eq lv48_eq sv48_eq bd48_eq bd27_eq bs22_eq sl22_eq mk22_eq eqo_eq neo_eq sho_eq xro_eq

theorem brOk_nat (m I : Nat) (hm : m ≤ 1099511627776) : brOk (m : Int) (I : Int) ↔ I < 2 ^ dpt m := by
  unfold brOk
  rw [Int.toNat_natCast]
  constructor
  · intro h
    have := h.2.2
    omega
  · intro h
    exact ⟨⟨by omega, by omega⟩, by omega, by omega⟩

set_option maxRecDepth 20000 in
set_option maxHeartbeats 2000000 in
theorem rbranch_any (a : Option Addr) (len cap : Nat) (f : Nat → Int) (n i : Int) (w : World) (hr : Rts w a len cap f) (hlc : len ≤ cap) (hf : ByB f (32 * len)) (hC : Rc w) (h0 : -9223372036854775808 ≤ n) (h1 : n ≤ 9223372036854775807) (h2 : -9223372036854775808 ≤ i) (h3 : i ≤ 9223372036854775807) (hln : len ≤ 9223372036854775807) :
    Calls Tryd.prog 20 #[.slice a len cap, .int .i64 n, .int .i64 i] w fun e w' => ∃ a' cap', e = .returned (.tuple #[.slice a' (brN len n i) cap', .int .i64 (brE len n i)]) ∧ Below w.heap.size w w' ∧ Rts w' a' (brN len n i) cap' (brV f len i.toNat) := by
  by_cases hn : okL n
  · obtain ⟨m, rfl⟩ : ∃ m : Nat, n = (m : Int) := ⟨n.toNat, by have := hn.1; omega⟩
    have hm : m ≤ 1099511627776 := by have := hn.2; omega
    have d0 : decide ((m : Int) < 0) = false := by simp
    have d1 : decide ((1099511627776 : Int) < (m : Int)) = false := by simp; omega
    have d2 : decide (1099511627776 < m) = false := by simp; omega
    by_cases hi0 : i < 0
    · have d3 : decide (i < 0) = true := by simp; omega
      have e1 : brN len m i = 0 := if_neg (fun h => by have := h.1.2.1; omega)
      have e2 : brE len m i = 1 := if_neg (fun h => by have := h.2.1; omega)
      rw [e1, e2]
      clear e1 e2 hn hr hf hC h0 h1
      go_enter Tryd.func20, Tryd.ntmps20
      go_wp2
      go_ret2
      exact ⟨_, _, rfl, Below.refl _ _, .inl ⟨rfl, rfl, rfl⟩⟩
    · obtain ⟨I, rfl⟩ : ∃ I : Nat, i = (I : Int) := ⟨i.toNat, by omega⟩
      have d3 : decide ((I : Int) < 0) = false := by simp
      have hdp := fun W => rdepth_any m W hm
      have hD2 := dpt_le m hm
      have hB1 := brOk_nat m I hm
      by_cases hx : I < 2 ^ dpt m
      · by_cases hlm : len ≤ m
        · have e1 : brN len m I = dpt m := by unfold brN; rw [if_pos ⟨hB1.2 hx, by omega⟩, Int.toNat_natCast]
          have e2 : brE len m I = 0 := by unfold brE; rw [if_pos (hB1.2 hx), if_pos (by omega)]
          rw [e1, e2, Int.toNat_natCast]
          exact rbranch_ok a len cap f m I (dpt m) w hr hlc hf hC hm hlm rfl hx
        · have e1 : brN len m I = 0 := if_neg (fun h => by have := h.2; omega)
          have e2 : brE len m I = 6 := by unfold brE; rw [if_pos (hB1.2 hx), if_neg (by omega)]
          rw [e1, e2]
          have d6 : decide ((m : Int) < (len : Int)) = true := by simp; omega
          have d7 : decide (m < len) = true := by simp; omega
          clear e1 e2 hB1
          generalize dpt m = D at hdp hD2 hx
          have hX : 2 ^ D ≤ 2 ^ 40 := Nat.pow_le_pow_right (by omega) hD2
          obtain ⟨X0, eX0⟩ : ∃ X, 2 ^ D = X := ⟨_, rfl⟩
          rw [eX0] at hX hx
          have hs0 := fun W => sho_one D X0 (by omega) eX0 (by omega) W
          have d4 : decide (X0 ≤ I) = false := by simp; omega
          have d5 : decide ((X0 : Int) ≤ (I : Int)) = false := by simp; omega
          have HDP := hid hdp
          clear hdp hn hr hf hC h0 h1 hx eX0 hX
          go_enter Tryd.func20, Tryd.ntmps20
          go_wp2_with (go_at_call 30; refine (HDP.out _).mono ?_; rintro e w2 ⟨rfl, hw2⟩; obtain rfl := hw2.symm)
          go_ret2
          exact ⟨_, _, rfl, Below.refl _ _, .inl ⟨rfl, rfl, rfl⟩⟩
      · have e1 : brN len m I = 0 := if_neg (fun h => hx (hB1.1 h.1))
        have e2 : brE len m I = 1 := if_neg (fun h => hx (hB1.1 h))
        rw [e1, e2]
        clear e1 e2 hB1
        generalize dpt m = D at hdp hD2 hx
        have hX : 2 ^ D ≤ 2 ^ 40 := Nat.pow_le_pow_right (by omega) hD2
        obtain ⟨X0, eX0⟩ : ∃ X, 2 ^ D = X := ⟨_, rfl⟩
        rw [eX0] at hX hx
        have hs0 := fun W => sho_one D X0 (by omega) eX0 (by omega) W
        have d4 : decide (X0 ≤ I) = true := by simp; omega
        have d5 : decide ((X0 : Int) ≤ (I : Int)) = true := by simp; omega
        have HDP := hid hdp
        clear hdp hn hr hf hC h0 h1 hx eX0 hX
        go_enter Tryd.func20, Tryd.ntmps20
        go_wp2_with (go_at_call 30; refine (HDP.out _).mono ?_; rintro e w2 ⟨rfl, hw2⟩; obtain rfl := hw2.symm)
        go_ret2
        exact ⟨_, _, rfl, Below.refl _ _, .inl ⟨rfl, rfl, rfl⟩⟩
  · have e1 : brN len n i = 0 := if_neg (fun h => hn h.1.1)
    have e2 : brE len n i = 1 := if_neg (fun h => hn h.1)
    rw [e1, e2]
    by_cases hneg : n < 0
    · have d1 : decide (n < 0) = true := by simp; omega
      clear e1 e2 hn hr hf hC
      go_enter Tryd.func20, Tryd.ntmps20
      go_wp2
      go_ret2
      exact ⟨_, _, rfl, Below.refl _ _, .inl ⟨rfl, rfl, rfl⟩⟩
    · have d1 : decide (n < 0) = false := by simp; omega
      have d2 : decide (1099511627776 < n) = true := by
        have : ¬ n ≤ 1099511627776 := fun h => hn ⟨by omega, h⟩
        simp; omega
      clear e1 e2 hn hr hf hC
      go_enter Tryd.func20, Tryd.ntmps20
      go_wp2
      go_ret2
      exact ⟨_, _, rfl, Below.refl _ _, .inl ⟨rfl, rfl, rfl⟩⟩

set_option maxRecDepth 20000 in
set_option maxHeartbeats 2000000 in
/-- No branch. -/
theorem branches_none (a : Option Addr) (len cap : Nat) (BR xx : Nat → Int) (n i jj E : Int) (w : World) (hE : (E == 0) = false)
    (haw : Ans w 9 #[] (.bool true))
    (hBr : ∀ W, Below w.heap.size w W → Calls Tryd.prog 19 #[.slice a len cap, .int .i64 n, .int .i64 i] W fun e w' => ∃ a' cap', e = .returned (.tuple #[.slice a' 0 cap', .int .i64 E]) ∧ Below W.heap.size W w' ∧ Rts w' a' 0 cap' BR)
    (hRBr : ∀ W, Below w.heap.size w W → Calls Tryd.prog 20 #[.slice a len cap, .int .i64 n, .int .i64 i] W fun e w' => ∃ a' cap', e = .returned (.tuple #[.slice a' 0 cap', .int .i64 E]) ∧ Below W.heap.size W w' ∧ Rts w' a' 0 cap' BR)
    (hSm : ∀ W a1 c1 a2 c2, Rts W a1 0 c1 BR → Rts W a2 0 c2 BR → Calls Tryd.prog 12 #[.slice a1 0 c1, .slice a2 0 c2] W fun e w' => e = .returned (.bool true) ∧ Below W.heap.size W w') :
    Calls Tryd.prog 4 #[.slice a len cap, .int .i64 n, .int .i64 i, .int .i64 jj, .agg (vs .u8 32 xx)] w fun e w' => e = .returned (.bool true) ∧ Below w.heap.size w w' := by
  have HAW := hid haw
  have HBR := hid hBr
  have HRBR := hid hRBr
  have HSM := hid hSm
  clear haw hBr hRBr hSm
  go_enter Tryd.func4, Tryd.ntmps4
  go_upto_region 1 with fail
  obtain ⟨W0, hW0⟩ : ∃ W, w.alloc (.cells (vs .u8 32 xx) 27) = W := ⟨_, rfl⟩
  rw [hW0]
  have hB0 : Below w.heap.size w W0 := by rw [← hW0]; exact (Below.refl _ _).alloc (Nat.le_refl _) _
  have HB0 := hid hB0
  clear hB0 hW0
  go_upto_region 3 with (go_at_call 9; refine (HAW.out _ HB0.out).mono ?_; rintro e w2 ⟨rfl, hb2⟩)
  have HB2 := hid (HB0.out.trans (hb2.mono HB0.out.size))
  clear hb2
  go_upto_region 4 with (go_at_call 19; refine (HBR.out _ HB2.out).mono ?_; rintro e w3 ⟨al, cl, rfl, hb3, hrl⟩)
  have HRL := hid hrl
  have HB3 := hid (HB2.out.trans (hb3.mono HB2.out.size))
  clear hb3 hrl
  go_upto_region 5 with (go_at_call 20; refine (HRBR.out _ HB3.out).mono ?_; rintro e w4 ⟨ak, ck, rfl, hb4, hrk⟩)
  have hrl4 := HRL.out.below hb4
  have HRL4 := hid hrl4
  have HRK := hid hrk
  have HB4 := hid (HB3.out.trans (hb4.mono HB3.out.size))
  clear hb4 hrk hrl4
  go_wp2_with (go_at_call 12; refine (HSM.out _ _ _ _ _ HRL4.out HRK.out).mono ?_; rintro e w5 ⟨rfl, hb5⟩)
  go_ret
  exact ⟨rfl, HB4.out.trans (hb5.mono HB4.out.size)⟩

theorem branches_any (a : Option Addr) (len cap : Nat) (f xx : Nat → Int) (n i jj : Int) (w : World) (hS : Sh w) (hC : Rc w) (hr : Rts w a len cap f) (hf : ByB f (32 * len)) (hlc : len ≤ cap) (hl : 32 * len ≤ 140737488355328) (hx : ∀ j, j < 32 → 0 ≤ xx j ∧ xx j < 256)
    (hn0 : -9223372036854775808 ≤ n) (hn1 : n ≤ 9223372036854775807) (hi0 : -9223372036854775808 ≤ i) (hi1 : i ≤ 9223372036854775807) (hj1 : jj ≤ 9223372036854775807) :
    Calls Tryd.prog 4 #[.slice a len cap, .int .i64 n, .int .i64 i, .int .i64 jj, .agg (vs .u8 32 xx)] w fun e w' => e = .returned (.bool true) ∧ Below w.heap.size w w' := by
  have hBr := fun W (h : Below w.heap.size w W) => branch_any a len cap f n i W (hr.below h) hl hf (hS.below h) hn0 hn1 hi0 hi1
  have hRBr := fun W (h : Below w.heap.size w W) => rbranch_any a len cap f n i W (hr.below h) hlc hf (hC.below h) hn0 hn1 hi0 hi1 (by omega)
  by_cases hok : brOk n i ∧ (len : Int) ≤ n
  · obtain ⟨m, rfl⟩ : ∃ m : Nat, n = (m : Int) := ⟨n.toNat, by have := hok.1.1.1; omega⟩
    obtain ⟨I, rfl⟩ : ∃ I : Nat, i = (I : Int) := ⟨i.toNat, by have := hok.1.2.1; omega⟩
    have hm : m ≤ 1099511627776 := by have := hok.1.1.2; omega
    have hI : I < 2 ^ dpt m := (brOk_nat m I hm).1 hok.1
    have e1 : brN len m I = dpt m := by unfold brN; rw [if_pos hok, Int.toNat_natCast]
    have e2 : brE len m I = 0 := by unfold brE; rw [if_pos hok.1, if_pos hok.2]
    have hD2 := dpt_le m hm
    have hX : 2 ^ dpt m ≤ 2 ^ 40 := Nat.pow_le_pow_right (by omega) hD2
    have hTv : treeV f len (m : Int) = nd f len (dpt m) 0 := by unfold treeV; rw [if_pos ⟨hok.1.1, hok.2⟩, Int.toNat_natCast]
    have hTe : treeE len (m : Int) = 0 := by unfold treeE; rw [if_pos hok.1.1, if_pos hok.2]
    have hT : Ans w 10 #[.slice a len cap, .int .i64 (m : Int)] (.tuple #[.agg (vs .u8 32 (nd f len (dpt m) 0)), .int .i64 0]) := fun W h => by
      have := tree_any a len cap f m W (hr.below h) hl hf (hS.below h) hn0 hn1
      rw [hTv, hTe] at this
      exact this
    rw [Int.toNat_natCast, e1, e2] at hBr hRBr
    have hI2 : I ≤ 1099511627776 := by omega
    have hup := up_br f (nd f len 0 I) len I (fun _ _ => rfl) (dpt m)
    have hdiv : I / 2 ^ dpt m = 0 := Nat.div_eq_of_lt hI
    rw [hdiv] at hup
    have hhold : holdsV (nd f len 0 I) (brV f len I) (dpt m) I (nd f len (dpt m) 0) = true := by
      unfold holdsV
      rw [decide_eq_true (by omega), Bool.true_and, eqR_congr hup (fun _ _ => rfl)]
      exact eqR_self _
    generalize dpt m = D at hBr hRBr hD2 hT hhold
    have bL : ∀ j, j < 32 → 0 ≤ nd f len 0 I j ∧ nd f len 0 I j < 256 := fun j hj => nd_bd hf 0 I j hj
    have hSm : ∀ W a1 c1 a2 c2, Rts W a1 D c1 (brV f len I) → Rts W a2 D c2 (brV f len I) → Calls Tryd.prog 12 #[.slice a1 D c1, .slice a2 D c2] W fun e w' => e = .returned (.bool true) ∧ Below W.heap.size W w' := fun W a1 c1 a2 c2 h1 h2 => rsame_true a1 a2 D c1 c2 _ _ W h1 h2 (fun _ _ => rfl) (by omega)
    have hH1 : ∀ W a' c', Below w.heap.size w W → Rts W a' D c' (brV f len I) → Calls Tryd.prog 21 #[.agg (vs .u8 32 (nd f len 0 I)), .slice a' D c', .int .u64 I, .agg (vs .u8 32 (nd f len D 0))] W fun e w' => e = .returned (.bool true) ∧ Below W.heap.size W w' := fun W a' c' h h2 => by
      have := holds_any (nd f len 0 I) (nd f len D 0) (brV f len I) a' D c' I W (hS.below h) bL h2 (brV_bd hf I _) (by omega) (by omega)
      rw [hhold] at this
      exact this
    have hHx : ∀ W a' c', Below w.heap.size w W → Rts W a' D c' (brV f len I) → Calls Tryd.prog 21 #[.agg (vs .u8 32 xx), .slice a' D c', .int .u64 I, .agg (vs .u8 32 (nd f len D 0))] W fun e w' => e = .returned (.bool (holdsV xx (brV f len I) D I (nd f len D 0))) ∧ Below W.heap.size W w' := fun W a' c' h h2 => holds_any xx (nd f len D 0) (brV f len I) a' D c' I W (hS.below h) hx h2 (brV_bd hf I _) (by omega) (by omega)
    have hRHx : ∀ W a' c', Below w.heap.size w W → Rts W a' D c' (brV f len I) → Calls Tryd.prog 22 #[.agg (vs .u8 32 xx), .slice a' D c', .int .u64 I, .agg (vs .u8 32 (nd f len D 0))] W fun e w' => e = .returned (.bool (holdsV xx (brV f len I) D I (nd f len D 0))) ∧ Below W.heap.size W w' := fun W a' c' h h2 => rholds_any xx (nd f len D 0) (brV f len I) a' D c' I W (hC.below h) hx h2 (brV_bd hf I _) (by omega) (by omega)
    have hHj : ∀ J : Nat, jj = (J : Int) → ∀ W a' c', Below w.heap.size w W → Rts W a' D c' (brV f len I) → Calls Tryd.prog 21 #[.agg (vs .u8 32 (nd f len 0 I)), .slice a' D c', .int .u64 J, .agg (vs .u8 32 (nd f len D 0))] W fun e w' => e = .returned (.bool (holdsV (nd f len 0 I) (brV f len I) D J (nd f len D 0))) ∧ Below W.heap.size W w' := fun J hJ W a' c' h h2 => holds_any (nd f len 0 I) (nd f len D 0) (brV f len I) a' D c' J W (hS.below h) bL h2 (brV_bd hf I _) (by omega) (by omega)
    have hRHj : ∀ J : Nat, jj = (J : Int) → ∀ W a' c', Below w.heap.size w W → Rts W a' D c' (brV f len I) → Calls Tryd.prog 22 #[.agg (vs .u8 32 (nd f len 0 I)), .slice a' D c', .int .u64 J, .agg (vs .u8 32 (nd f len D 0))] W fun e w' => e = .returned (.bool (holdsV (nd f len 0 I) (brV f len I) D J (nd f len D 0))) ∧ Below W.heap.size W w' := fun J hJ W a' c' h h2 => rholds_any (nd f len 0 I) (nd f len D 0) (brV f len I) a' D c' J W (hC.below h) bL h2 (brV_bd hf I _) (by omega) (by omega)
    by_cases hil : I < len
    · obtain ⟨b, o, hb, hxi, hc⟩ := hr.at I hil
      have hnd : nd f len 0 I = rt32 f I := by unfold nd; rw [if_pos hil]
      have hLC : ∀ W, Below w.heap.size w W → (lv24 ⟨b, o, none⟩).run Tryd.prog W = .ok (.agg (vs .u8 32 (nd f len 0 I))) W := fun W h => by
        rw [hnd]
        exact lv24_mid (fun j hj => (below_cell h hb).trans (hc j hj))
      exact branches_coreIn a len cap D I _ _ (nd f len 0 I) xx _ (fun J => holdsV (nd f len 0 I) (brV f len I) D J (nd f len D 0)) m jj w hI2 hD2 hj1 b o hil hxi hLC (awake_ans hS) hBr hRBr hSm hT hH1 hHx hRHx hHj hRHj
    · have hL0 : nd f len 0 I = fun _ => 0 := by unfold nd; rw [if_neg hil]
      exact branches_coreOut a len cap D I _ _ (nd f len 0 I) xx _ (fun J => holdsV (nd f len 0 I) (brV f len I) D J (nd f len D 0)) m jj w hI2 hD2 hj1 (by omega) hL0 (awake_ans hS) hBr hRBr hSm hT hH1 hHx hRHx hHj hRHj
  · have e1 : brN len n i = 0 := if_neg hok
    have e2 : (brE len n i == 0) = false := by
      unfold brE
      by_cases h : brOk n i
      · rw [if_pos h, if_neg (fun h2 => hok ⟨h, h2⟩)]
        rfl
      · rw [if_neg h]
        rfl
    rw [e1] at hBr hRBr
    exact branches_none a len cap _ xx n i jj _ w e2 (awake_ans hS) hBr hRBr (fun W a1 c1 a2 c2 h1 h2 => rsame_true a1 a2 0 c1 c2 _ _ W h1 h2 (fun _ _ => rfl) (by omega))

end Go.Proofs.YtahnlfiahchdeaaDoor
