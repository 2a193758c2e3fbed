/-
  What the reference's Up and Holds answer; what MerkleHolds answers.
  What MerkleHolds answers.
  What the reference's Same, Depth and Zero answer.
  What the reference's Zero answers.
  Halves of a tree, as functions; the reference's recursion is the tree.
-/
import Derived.Test.YtokbhcgooboocaaDoorMaC
import Derived.Test.YtokbhcgooboocaaDoorHaG
import Derived.Maps.AppendAt
import Derived.Test.YtokbhcgooboocaaDoorMaA
namespace Go.Proofs.YtokbhcgooboocaaDoor
open Go.RowKit
set_option linter.unusedVariables false
set_option linter.unusedSimpArgs false

attribute [local go_sem ↓] sv24_eq lv24_eq ix22_eq slr_eq lv48_eq sv48_eq bd48_eq bd27_eq bs22_eq sl22_eq mk22_eq eqo_eq

/-- The reference's table. -/
def Rc (w : World) : Prop := Tab w 1 64 KW
theorem Rc.below {w w' : World} (h : Rc w) (hb : Below w.heap.size w w') : Rc w' := Tab.below h hb
theorem rtwo_tw (a b : Nat → Int) (w : World) (hC : Rc w) (ha : ∀ j, j < 32 → 0 ≤ a j ∧ a j < 256) (hb : ∀ j, j < 32 → 0 ≤ b j ∧ b j < 256) :
    Calls Tryd.prog 86 #[.agg (vs .u8 32 a), .agg (vs .u8 32 b)] w fun e w' => e = .returned (.agg (vs .u8 32 (tw a b))) ∧ Below w.heap.size w w' :=
  reftwo_any a b w hC ha hb

end Go.Proofs.YtokbhcgooboocaaDoor

namespace Go.Proofs.YtokbhcgooboocaaDoor
open Go.RowKit
set_option linter.unusedVariables false
set_option linter.unusedSimpArgs false

/-- append of roots, whole. -/
def apR (ty : TypeId) (x y : Value) : Sem Value := Builtin.append_ #[81, 81] ty #[x, y]
theorem wp_appendR_is {P : Program} {o : Oper} {a : Act} {w : World} {K : Act → World → Prop} {Q : Exit → Act → World → Prop} (s x : Operand)
    (ho : o.op = .call { callee := .builtin .append, args := #[s, x], argTypes := #[81, 81] }) (ws wx v : Value) (w' : World) (hs : a.eval s = ws) (hx : a.eval x = wx)
    (hrun : (apR o.type ws wx).run P w = .ok v w') (h : K (a.put o.dst v) w') : Oper.wp P o a w K Q := by
  unfold apR at hrun
  unfold Oper.wp execOp
  simp only [ho, resolve, invoke, builtin, Sem.run_bind, Sem.run_pure, Result.andThen_ok, List.map_toArray, List.map_cons, List.map_nil, hs, hx, hrun]
  exact h
/-- A copy of roots by append. -/
theorem apR_copy (w w0 : World) (a : Option Addr) (len cap : Nat) (f : Nat → Int) (hr : Rts w0 a len cap f) (hl : 32 * len ≤ 140737488355328) (hb : Below w0.heap.size w0 w) (ty : TypeId) :
    ∃ a' cap' w', (apR ty (.slice (some ⟨w.heap.size, 0, none⟩) 0 0) (.slice a len cap)).run Tryd.prog (w.alloc (.cells #[] 25)) = .ok (.slice a' len cap') w' ∧ Below w.heap.size w w' ∧ Rts w' a' len cap' f := by
  obtain ⟨i, hi, hz0, hz1, hz2⟩ := infoR
  have hzz : (Value.agg (vs .u8 32 fun _ => 0)).cells.size = 32 := by simp [Value.cells, vs_size]
  have hB : Below w.heap.size w (w.alloc (.cells #[] 25)) := (Below.refl _ _).alloc (Nat.le_refl _) _
  have hown : (w.alloc (.cells #[] 25)).ownsRow w.heap.size 25 32 (.slice (some ⟨w.heap.size, 0, none⟩) 0 0) 0 [] := World.ownsRow_made _ #[] 0 (Nat.le_refl _) (Nat.zero_le _) rfl
  have hfin : ∀ v' w', w'.ownsRow w.heap.size 25 32 v' (0 + len) ([] ++ bl f (32 * len)) → (w.alloc (.cells #[] 25)).grownBy w' (Value.slice (some ⟨w.heap.size, 0, none⟩) 0 0).ownBlock → ∃ a' cap', v' = .slice a' len cap' ∧ Below w.heap.size w w' ∧ Rts w' a' len cap' f := by
    intro v' w' ho hg
    rw [Nat.zero_add, List.nil_append] at ho
    obtain ⟨a', cap', rfl, hrow⟩ := RowR.ofOwns ho
    exact ⟨a', cap', rfl, below_grownS hB hown (by simp) hg, hrow.rts⟩
  have hr2 : Rts (w.alloc (.cells #[] 25)) a len cap f := hr.below (hb.trans (hB.mono hb.size))
  rcases hr2 with ⟨rfl, rfl, rfl⟩ | ⟨x0, rfl, rfl⟩ | ⟨b, off, rfl, hlc, hbl, hc⟩
  · have h := run_append_owned_none (P := Tryd.prog) (w := w.alloc (.cells #[] 25)) w.heap.size 81 ty 25 i 32 Tryd.underlying81 hi _ 0 [] hown
    exact ⟨_, _, _, h, hB, .inr (.inl ⟨_, rfl, rfl⟩)⟩
  · obtain ⟨v', w', hrun, ho, hg, _⟩ := run_append_own_at (P := Tryd.prog) (w.alloc (.cells #[] 25)) w.heap.size 81 ty 25 i _ 32 32 Tryd.underlying81 hi hz0 hz1 hz2 hzz (by decide) _ 0 [] hown x0 0 cap (bl f (32 * 0)) (by rw [bl_len])
      (fun j u hj => by
        have := (bl_get f (32 * 0) j u hj).1
        omega) (bl_one f _) (by unfold maxLen; omega) (by omega) (by simp)
    obtain ⟨a', cap', rfl, h1, h2⟩ := hfin v' w' ho hg
    exact ⟨a', cap', w', hrun, h1, h2⟩
  · obtain ⟨v', w', hrun, ho, hg, _⟩ := run_append_own_at (P := Tryd.prog) (w.alloc (.cells #[] 25)) w.heap.size 81 ty 25 i _ 32 32 Tryd.underlying81 hi hz0 hz1 hz2 hzz (by decide) _ 0 [] hown ⟨b, off, none⟩ len cap (bl f (32 * len)) (by rw [bl_len]; omega)
      (fun j u hj => by
        obtain ⟨h1, rfl⟩ := bl_get f (32 * len) j u hj
        rw [addr_add]
        exact hc j h1) (bl_one f _) (by unfold maxLen; omega) (by omega) (by simp)
    obtain ⟨a', cap', rfl, h1, h2⟩ := hfin v' w' ho hg
    exact ⟨a', cap', w', hrun, h1, h2⟩

attribute [local go_sem ↓] sv24_eq lv24_eq ix22_eq slr_eq lv48_eq sv48_eq bd48_eq bd27_eq sl22_eq mk22_eq eqo_eq

end Go.Proofs.YtokbhcgooboocaaDoor

namespace Go.Proofs.YtokbhcgooboocaaDoor
open Go.RowKit
set_option linter.unusedVariables false
set_option linter.unusedSimpArgs false

theorem yields_neo {ops : Array Oper} {S : World → Prop} {op : Oper} {a : Act} (hw : Region.wanted op (yielded ops a.tmps) = true) (x y : Operand) (rt : TypeId) (ho : op.op = .binOp .neq 25 x y rt) (c d : Nat → Int)
    (hx : a.eval x = .agg (vs .u8 32 c)) (hy : a.eval y = .agg (vs .u8 32 d)) : YieldsIf Tryd.prog ops S op (.bool (!eqR c d)) a :=
  .inl ⟨hw, fun w _ => by
    have h : (Op.equalIn Op.maxDepth 25 (.agg (vs .u8 32 c)) (.agg (vs .u8 32 d))).run Tryd.prog w = .ok (eqR c d) w := eq32g w c d
    unfold execOp
    simp [ho, hx, hy, eqGuard, binOp, Op.equal, h]⟩

attribute [local go_sem ↓] sv24_eq lv24_eq ix22_eq slr_eq lv48_eq sv48_eq bd48_eq bd27_eq bs22_eq sl22_eq mk22_eq eqo_eq

theorem shl_one (d : Nat) (hd : d ≤ 40) : wrap64 ((2 : Int) ^ d) = ((2 ^ d : Nat) : Int) := by
  have : 2 ^ d ≤ 2 ^ 40 := Nat.pow_le_pow_right (by omega) hd
  unfold wrap64
  have e : ((2 : Int) ^ d) = ((2 ^ d : Nat) : Int) := by simp
  rw [e]
  have h0 : 0 < 2 ^ d := Nat.two_pow_pos d
  generalize 2 ^ d = X at this h0 ⊢
  have h1 : (X : Int) ≤ 1099511627776 := by omega
  omega

set_option maxRecDepth 20000 in
set_option maxHeartbeats 1000000 in
theorem rdepth_any (n : Nat) (w : World) (hn : n ≤ 1099511627776) :
    Calls Tryd.prog 114 #[.int .i64 n] w fun e w' => e = .returned (.int .i64 (dpt n : Nat)) ∧ w' = w := by
  have hD2 := dpt_le n hn
  have hD3 := dpt_ge n hn
  have hD4 := fun k => dpt_lt n k hn
  generalize dpt n = D at hD2 hD3 hD4 ⊢
  have HD4 := hid hD4
  clear hD4
  go_enter Tryd.func114, Tryd.ntmps114
  go_wp2
  go_loopw [3] (fun i wr => ∃ k : Nat, k ≤ D ∧ i = .int .i64 k ∧ wr = w) (fun i _ => D - (intOf i).toNat)
  case atStart => exact ⟨0, by omega, rfl, rfl⟩
  case round =>
    obtain ⟨k, hk, rfl, rfl⟩ := hrel
    have hs := shl_one k (by omega)
    obtain ⟨X, eX⟩ : ∃ X : Nat, 2 ^ k = X := ⟨_, rfl⟩
    rw [eX] at hs
    by_cases hlt : k < D
    · have hx := HD4.out k hlt
      rw [eX] at hx
      have b3 : decide (X < n) = true := by simp; omega
      have b4 : decide ((X : Int) < (n : Int)) = true := by simp; omega
      clear eX
      go_wp2
      go_roundw
      case rel => exact ⟨k + 1, by omega, by go_num, by trivial⟩
      case measure => simp [intOf]; omega
    · have ek : k = D := by omega
      subst ek
      have b3 : decide (X < n) = false := by simp; omega
      have b4 : decide ((X : Int) < (n : Int)) = false := by simp; omega
      clear eX hD3
      go_wp2
      go_ret
      exact ⟨rfl, rfl⟩

end Go.Proofs.YtokbhcgooboocaaDoor

namespace Go.Proofs.YtokbhcgooboocaaDoor
open Go.RowKit
set_option linter.unusedVariables false
set_option linter.unusedSimpArgs false

attribute [local go_sem ↓] sv24_eq lv24_eq ix22_eq slr_eq lv48_eq sv48_eq bd48_eq bd27_eq bs22_eq sl22_eq mk22_eq eqo_eq

end Go.Proofs.YtokbhcgooboocaaDoor

namespace Go.Proofs.YtokbhcgooboocaaDoor
open Go.RowKit
set_option linter.unusedVariables false
set_option linter.unusedSimpArgs false

theorem nd_congr (f g : Nat → Int) (len m : Nat) : ∀ (e i i' : Nat), (∀ t, t < 2 ^ e → ∀ j, j < 32 → nd f len 0 (i * 2 ^ e + t) j = nd g m 0 (i' * 2 ^ e + t) j) → ∀ j, j < 32 → nd f len e i j = nd g m e i' j
  | 0, i, i', h => by
    intro j hj
    have := h 0 (by simp) j hj
    simpa using this
  | e + 1, i, i', h => by
    intro j hj
    have hp : 2 ^ (e + 1) = 2 * 2 ^ e := by rw [Nat.pow_succ, Nat.mul_comm]
    refine tw_congr (nd_congr f g len m e (2 * i) (2 * i') fun t ht j hj => ?_) (nd_congr f g len m e (2 * i + 1) (2 * i' + 1) fun t ht j hj => ?_) j hj
    · have := h t (by omega) j hj
      rw [hp] at this
      rw [show 2 * i * 2 ^ e + t = i * (2 * 2 ^ e) + t by rw [Nat.mul_comm 2 i, Nat.mul_assoc], show 2 * i' * 2 ^ e + t = i' * (2 * 2 ^ e) + t by rw [Nat.mul_comm 2 i', Nat.mul_assoc]]
      exact this
    · have := h (2 ^ e + t) (by omega) j hj
      rw [hp] at this
      rw [show (2 * i + 1) * 2 ^ e + t = i * (2 * 2 ^ e) + (2 ^ e + t) by rw [Nat.add_mul, Nat.one_mul, Nat.mul_comm 2 i, Nat.mul_assoc, Nat.add_assoc], show (2 * i' + 1) * 2 ^ e + t = i' * (2 * 2 ^ e) + (2 ^ e + t) by rw [Nat.add_mul, Nat.one_mul, Nat.mul_comm 2 i', Nat.mul_assoc, Nat.add_assoc]]
      exact this

/-- The row from a root on. -/
def shf (f : Nat → Int) (s : Nat) (q : Nat) : Int := f (32 * s + q)
theorem shf_shf (f : Nat → Int) (s t : Nat) : shf (shf f s) t = shf f (s + t) := by
  funext q
  unfold shf
  rw [Nat.mul_add, Nat.add_assoc]
theorem rt32_shf (f : Nat → Int) (s i : Nat) : rt32 (shf f s) i = rt32 f (s + i) := by
  funext j
  unfold rt32 shf
  rw [Nat.mul_add, Nat.add_assoc]

theorem nd_left (f : Nat → Int) (n d h : Nat) (hh : h = min (2 ^ d) n) : ∀ j, j < 32 → nd f n d 0 j = nd f h d 0 j := by
  refine nd_congr f f n h d 0 0 fun t ht j hj => ?_
  unfold nd
  rw [Nat.zero_mul, Nat.zero_add]
  by_cases h1 : t < n
  · rw [if_pos h1, if_pos (by omega)]
  · rw [if_neg h1, if_neg (by omega)]
theorem nd_right (f : Nat → Int) (n d h : Nat) (hh : h = min (2 ^ d) n) : ∀ j, j < 32 → nd f n d 1 j = nd (shf f h) (n - h) d 0 j := by
  refine nd_congr f (shf f h) n (n - h) d 1 0 fun t ht j hj => ?_
  unfold nd
  rw [Nat.zero_mul, Nat.zero_add, Nat.one_mul]
  by_cases h1 : 2 ^ d + t < n
  · rw [if_pos h1, if_pos (by omega), rt32_shf, show h = 2 ^ d by omega]
  · rw [if_neg h1, if_neg (by omega)]

/-- What the reference's recursion makes of n roots from s on. -/
def trV (f : Nat → Int) : Nat → Nat → Nat → Nat → Int
  | 0, s, n => if n = 0 then zr 0 else rt32 f s
  | d + 1, s, n => if n = 0 then zr (d + 1) else tw (trV f d s (min (2 ^ d) n)) (trV f d (s + min (2 ^ d) n) (n - min (2 ^ d) n))
theorem trV_nd (f : Nat → Int) : ∀ (d s n : Nat), n ≤ 2 ^ d → ∀ j, j < 32 → trV f d s n j = nd (shf f s) n d 0 j
  | 0, s, n, hn => by
    intro j hj
    unfold trV nd
    by_cases h : n = 0
    · rw [if_pos h, if_neg (by omega)]
      rfl
    · rw [if_neg h, if_pos (by omega), rt32_shf]
      rfl
  | d + 1, s, n, hn => by
    intro j hj
    have hp : 2 ^ (d + 1) = 2 * 2 ^ d := by rw [Nat.pow_succ, Nat.mul_comm]
    unfold trV
    by_cases h : n = 0
    · subst h
      rw [if_pos rfl, nd_zero (shf f s) 0 (d + 1) 0 (by have := up_le 0 (d + 1); omega)]
    · rw [if_neg h]
      obtain ⟨m, hm⟩ : ∃ m, m = min (2 ^ d) n := ⟨_, rfl⟩
      rw [← hm]
      refine tw_congr (fun j hj => ?_) (fun j hj => ?_) j hj
      · rw [trV_nd f d s m (by omega) j hj]
        exact (nd_left (shf f s) n d m hm j hj).symm
      · rw [trV_nd f d (s + m) (n - m) (by omega) j hj, ← shf_shf]
        exact (nd_right (shf f s) n d m hm j hj).symm

/-- A zero root behind changes nothing. -/
theorem nd_more (f g : Nat → Int) (n d : Nat) (hg : ∀ q, q < 32 * n → g q = f q) (hz : ∀ q, q < 32 → g (32 * n + q) = 0) : ∀ j, j < 32 → nd g (n + 1) d 0 j = nd f n d 0 j := by
  refine nd_congr g f (n + 1) n d 0 0 fun t ht j hj => ?_
  unfold nd
  by_cases h1 : 0 * 2 ^ d + t < n
  · rw [if_pos h1, if_pos (by omega)]
    exact hg _ (by omega)
  · rw [if_neg h1]
    by_cases h2 : 0 * 2 ^ d + t < n + 1
    · rw [if_pos h2]
      have e : 0 * 2 ^ d + t = n := by omega
      rw [e]
      exact hz j hj
    · rw [if_neg h2]

end Go.Proofs.YtokbhcgooboocaaDoor
