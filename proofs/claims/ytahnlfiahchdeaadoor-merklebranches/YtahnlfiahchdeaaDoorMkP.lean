/-
  What the reference's Same, Depth and Zero answer.
-/
import Derived.Test.YtahnlfiahchdeaaDoorMkL
namespace Go.Proofs.YtahnlfiahchdeaaDoor
open Go.RowKit
set_option linter.unusedVariables false
set_option linter.unusedSimpArgs false

theorem yields_neo {ops : Array Oper} {S : World → Prop} {op : Oper} {a : Act} (hw : Region.wanted op (yielded ops a.tmps) = true) (x y : Operand) (rt : TypeId) (ho : op.op = .binOp .neq 27 x y rt) (c d : Nat → Int)
    (hx : a.eval x = .agg (vs .u8 32 c)) (hy : a.eval y = .agg (vs .u8 32 d)) : YieldsIf Tryd.prog ops S op (.bool (!eqR c d)) a :=
  .inl ⟨hw, fun w _ => by
    have h : (Op.equalIn Op.maxDepth 27 (.agg (vs .u8 32 c)) (.agg (vs .u8 32 d))).run Tryd.prog w = .ok (eqR c d) w := eq32g w c d
    unfold execOp
    simp [ho, hx, hy, eqGuard, binOp, Op.equal, h]⟩

attribute [local go_sem ↓] sv24_eq lv24_eq ix22_eq slr_eq lv48_eq sv48_eq bd48_eq bd27_eq bs22_eq sl22_eq mk22_eq eqo_eq

set_option maxRecDepth 20000 in
set_option maxHeartbeats 1000000 in
theorem rsame_true (a b : Option Addr) (len cap cap' : Nat) (f g : Nat → Int) (w : World) (h1 : Rts w a len cap f) (h2 : Rts w b len cap' g) (hfg : ∀ q, q < 32 * len → f q = g q) (hl : len ≤ 140737488355328) :
    Calls Tryd.prog 12 #[.slice a len cap, .slice b len cap'] w fun e w' => e = .returned (.bool true) ∧ Below w.heap.size w w' := by
  have H1 := hid h1
  have H2 := hid h2
  have HFG := hid hfg
  clear h1 h2 hfg
  go_enter Tryd.func12, Tryd.ntmps12
  go_wp2
  go_loopw [5] (fun i wr => ∃ k : Nat, k ≤ len ∧ i = .int .i64 k ∧ Below w.heap.size w wr) (fun i _ => len - (intOf i).toNat)
  case atStart => exact ⟨0, by omega, rfl, Below.refl _ _⟩
  case round =>
    obtain ⟨k, hk, rfl, hB⟩ := hrel
    by_cases hlt : k < len
    · have b3 : decide (k < len) = true := by simp; omega
      obtain ⟨b1, o1, hb1, hx1, hc1⟩ := H1.out.at k hlt
      obtain ⟨b2, o2, hb2, hx2, hc2⟩ := H2.out.at k hlt
      have hla : ∀ W, Below w.heap.size w W → (lv24 ⟨b1, o1, none⟩).run Tryd.prog W = .ok (.agg (vs .u8 32 (rt32 f k))) W := fun W h => lv24_mid (fun j hj => (below_cell h hb1).trans (hc1 j hj))
      have hlb : ∀ W, Below w.heap.size w W → (lv24 ⟨b2, o2, none⟩).run Tryd.prog W = .ok (.agg (vs .u8 32 (rt32 g k))) W := fun W h => lv24_mid (fun j hj => (below_cell h hb2).trans (hc2 j hj))
      have heq : eqR (rt32 f k) (rt32 g k) = true := by
        have e := eqR_congr (c := rt32 f k) (c' := rt32 g k) (d := rt32 g k) (d' := rt32 g k) (fun j hj => HFG.out _ (by omega)) (fun _ _ => rfl)
        rw [e]
        exact eqR_self _
      have HLA := hid hla
      have HLB := hid hlb
      have HEQ := hid heq
      have HDR := hid hB.drew
      clear hla hlb heq hc1 hc2 hB
      go_upto_region 6 with fail
      refine wp_region_noPanic ?_
      refine wp_region_held_drew (S := fun W => Below w.heap.size w W) (by kernel_rfl) (HDR.out) (fun hHeld => ?_)
      refine wpAnyH_take (i := 0) (v := ?v1) rfl (by kernel_rfl) (by kernel_rfl) (by kernel_rfl) (fun _ _ _ h => h) (Or.inl ⟨by rfl, ?hy1⟩) hHeld ?rest1
      case hy1 =>
        intro w hSw
        go_simp
        try with_reducible rfl
      try simp only [Act.put, List.setIfInBounds_toArray, List.set_cons_zero, List.set_cons_succ, Array.toArray_toList, List.getElem_toArray, List.getElem_cons_zero, List.getElem_cons_succ]
      refine wpAnyH_take (i := 1) (v := ?v2) rfl (by kernel_rfl) (by kernel_rfl) (by kernel_rfl) (fun _ _ _ h => h) (Or.inl ⟨by rfl, ?hy2⟩) hHeld ?rest2
      case hy2 =>
        intro w hSw
        go_simp
        try with_reducible rfl
      try simp only [Act.put, List.setIfInBounds_toArray, List.set_cons_zero, List.set_cons_succ, Array.toArray_toList, List.getElem_toArray, List.getElem_cons_zero, List.getElem_cons_succ]
      refine wpAnyH_take (i := 2) (v := ?v3) rfl (by kernel_rfl) (by kernel_rfl) (by kernel_rfl) (fun _ _ _ h => h) (Or.inl ⟨by rfl, ?hy3⟩) hHeld ?rest3
      case hy3 =>
        intro w hSw
        go_simp
        try with_reducible rfl
      try simp only [Act.put, List.setIfInBounds_toArray, List.set_cons_zero, List.set_cons_succ, Array.toArray_toList, List.getElem_toArray, List.getElem_cons_zero, List.getElem_cons_succ]
      refine wpAnyH_take (i := 3) (v := ?v4) rfl (by kernel_rfl) (by kernel_rfl) (by kernel_rfl) (fun _ _ _ h => h) (Or.inl ⟨by rfl, ?hy4⟩) hHeld ?rest4
      case hy4 =>
        intro w hSw
        have ld := HLA.out _ hSw
        go_simp
        try with_reducible rfl
      try simp only [Act.put, List.setIfInBounds_toArray, List.set_cons_zero, List.set_cons_succ, Array.toArray_toList, List.getElem_toArray, List.getElem_cons_zero, List.getElem_cons_succ]
      refine wpAnyH_take (i := 4) (v := ?v5) rfl (by kernel_rfl) (by kernel_rfl) (by kernel_rfl) (fun _ _ _ h => h) (Or.inl ⟨by rfl, ?hy5⟩) hHeld ?rest5
      case hy5 =>
        intro w hSw
        go_simp
        try with_reducible rfl
      try simp only [Act.put, List.setIfInBounds_toArray, List.set_cons_zero, List.set_cons_succ, Array.toArray_toList, List.getElem_toArray, List.getElem_cons_zero, List.getElem_cons_succ]
      refine wpAnyH_take (i := 5) (v := ?v6) rfl (by kernel_rfl) (by kernel_rfl) (by kernel_rfl) (fun _ _ _ h => h) (Or.inl ⟨by rfl, ?hy6⟩) hHeld ?rest6
      case hy6 =>
        intro w hSw
        go_simp
        try with_reducible rfl
      try simp only [Act.put, List.setIfInBounds_toArray, List.set_cons_zero, List.set_cons_succ, Array.toArray_toList, List.getElem_toArray, List.getElem_cons_zero, List.getElem_cons_succ]
      refine wpAnyH_take (i := 6) (v := ?v7) rfl (by kernel_rfl) (by kernel_rfl) (by kernel_rfl) (fun _ _ _ h => h) (Or.inl ⟨by rfl, ?hy7⟩) hHeld ?rest7
      case hy7 =>
        intro w hSw
        go_simp
        try with_reducible rfl
      try simp only [Act.put, List.setIfInBounds_toArray, List.set_cons_zero, List.set_cons_succ, Array.toArray_toList, List.getElem_toArray, List.getElem_cons_zero, List.getElem_cons_succ]
      refine wpAnyH_take (i := 7) (v := ?v8) rfl (by kernel_rfl) (by kernel_rfl) (by kernel_rfl) (fun _ _ _ h => h) (Or.inl ⟨by rfl, ?hy8⟩) hHeld ?rest8
      case hy8 =>
        intro w hSw
        have ld := HLB.out _ hSw
        go_simp
        try with_reducible rfl
      try simp only [Act.put, List.setIfInBounds_toArray, List.set_cons_zero, List.set_cons_succ, Array.toArray_toList, List.getElem_toArray, List.getElem_cons_zero, List.getElem_cons_succ]
      refine wpAnyH_take (i := 8) rfl (by kernel_rfl) (by kernel_rfl) (by kernel_rfl) (fun _ _ _ h => h) (yields_neo (by rfl) _ _ _ rfl (rt32 f k) (rt32 g k) rfl rfl) hHeld ?_
      rw [HEQ.out, Bool.not_true]
      try simp only [Act.put, List.setIfInBounds_toArray, List.set_cons_zero, List.set_cons_succ, Array.toArray_toList, List.getElem_toArray, List.getElem_cons_zero, List.getElem_cons_succ]
      refine wpAnyH_done (by kernel_rfl) ?_ _
      refine NoPanic.normal ?_
      go_wp2
      go_roundw
      case rel => exact ⟨k + 1, by omega, by go_num, HDR.out⟩
      case measure => simp [intOf]; omega
    · have ek : k = len := by omega
      subst ek
      have b3 : decide (k < k) = false := by simp
      go_wp2
      go_ret
      exact ⟨rfl, hB⟩

theorem shl_one (d : Nat) (hd : d ≤ 40) : wrap64 ((2 : Int) ^ d) = ((2 ^ d : Nat) : Int) := by
  have : 2 ^ d ≤ 2 ^ 40 := Nat.pow_le_pow_right (by omega) hd
  unfold wrap64
  have e : ((2 : Int) ^ d) = ((2 ^ d : Nat) : Int) := by simp
  rw [e]
  have h0 : 0 < 2 ^ d := Nat.two_pow_pos d
  generalize 2 ^ d = X at this h0 ⊢
  have h1 : (X : Int) ≤ 1099511627776 := by omega
  omega

set_option maxRecDepth 20000 in
set_option maxHeartbeats 1000000 in
theorem rdepth_any (n : Nat) (w : World) (hn : n ≤ 1099511627776) :
    Calls Tryd.prog 30 #[.int .i64 n] w fun e w' => e = .returned (.int .i64 (dpt n : Nat)) ∧ w' = w := by
  have hD2 := dpt_le n hn
  have hD3 := dpt_ge n hn
  have hD4 := fun k => dpt_lt n k hn
  generalize dpt n = D at hD2 hD3 hD4 ⊢
  have HD4 := hid hD4
  clear hD4
  go_enter Tryd.func30, Tryd.ntmps30
  go_wp2
  go_loopw [3] (fun i wr => ∃ k : Nat, k ≤ D ∧ i = .int .i64 k ∧ wr = w) (fun i _ => D - (intOf i).toNat)
  case atStart => exact ⟨0, by omega, rfl, rfl⟩
  case round =>
    obtain ⟨k, hk, rfl, rfl⟩ := hrel
    have hs := shl_one k (by omega)
    obtain ⟨X, eX⟩ : ∃ X : Nat, 2 ^ k = X := ⟨_, rfl⟩
    rw [eX] at hs
    by_cases hlt : k < D
    · have hx := HD4.out k hlt
      rw [eX] at hx
      have b3 : decide (X < n) = true := by simp; omega
      have b4 : decide ((X : Int) < (n : Int)) = true := by simp; omega
      clear eX
      go_wp2
      go_roundw
      case rel => exact ⟨k + 1, by omega, by go_num, by trivial⟩
      case measure => simp [intOf]; omega
    · have ek : k = D := by omega
      subst ek
      have b3 : decide (X < n) = false := by simp; omega
      have b4 : decide ((X : Int) < (n : Int)) = false := by simp; omega
      clear eX hD3
      go_wp2
      go_ret
      exact ⟨rfl, rfl⟩

end Go.Proofs.YtahnlfiahchdeaaDoor
