/-
  Numbers appended; List whole; the document's List and Same.
-/

import Derived.Test.YtenhgoclfljjlaaDoorVfF
import Derived.Test.YtenhgoclfljjlaaDoorVfG
import Derived.Test.YtenhgoclfljjlaaDoorLkL
namespace Go.Proofs.YtenhgoclfljjlaaDoor

open Go.RowKit

set_option linter.unusedVariables false

set_option linter.unusedSimpArgs false

theorem N64.congr {w : World} {a : Option Addr} {n : Nat} {f g : Nat → Int} (h : N64 w a n f) (hf : ∀ j, j < n → f j = g j) : N64 w a n g := by
  rcases h with h | ⟨b, off, h1, h2, h3⟩
  · exact .inl h
  · exact .inr ⟨b, off, h1, h2, fun j hj => by rw [h3 j hj, hf j hj]⟩

theorem ul_snoc (f : Nat → Int) (n : Nat) (v : Int) (hv : v = f n) : ul f n ++ [.int .u64 v] = ul f (n + 1) := by
  unfold ul
  rw [List.range_succ, List.map_append, hv]
  rfl

/-- append of one number. -/
theorem wpList_append_n64 (w : World) {ops : Array Oper} {rest : List Oper} {o : Oper} {a : Act} {Q : Exit → Act → World → Prop} (hgd : o.guard = none) (s x : Operand)
    (ho : o.op = .call { callee := .builtin .append, args := #[s, x], argTypes := #[37, 37] })
    (base : Nat) (v : Value) (n : Nat) (m : Nat → Int) (z : Int) (hs : a.eval s = v) (hown : w.ownsRow base 22 1 v n (ul m n))
    (hx : a.eval x = .slice (some ⟨w.heap.size, 0, none⟩) 1 1) (hz : z = m n) (hbd : n + 1 ≤ 17592186044416) (hbase : base ≤ w.heap.size)
    (h : ∀ g C w', w'.ownsRow base 22 1 (.slice (some ⟨g, 0, none⟩) (n + 1) C) (n + 1) (ul m (n + 1)) → w.grownBy w' v.ownBlock → wpList Tryd.prog ops Q rest (a.put o.dst (.slice (some ⟨g, 0, none⟩) (n + 1) C)) w') :
    wpList Tryd.prog ops Q (o :: rest) a (w.alloc (.cells #[.int .u64 z] 22)) := by
  obtain ⟨i, hi, hz0, hz1, hz2⟩ := info_parts info64
  refine wpList_append_own _ hgd s x 37 ho base 22 i (.int .u64 0) 1 8 Tryd.underlying37 hi hz0 hz1 hz2 rfl (by decide) v n (ul m n) hs (hown.alloc _) ⟨w.heap.size, 0, none⟩ 1 1 [.int .u64 z] hx rfl (cell_one_new _ _ _)
    (fun u hu => by simp at hu; subst hu; rfl) (by unfold maxLen; omega) (by omega) (by simp; omega) (fun v' w' h1 h2 _ => ?_)
  rw [ul_snoc m n z hz] at h1
  obtain ⟨g, C, rfl⟩ := owns_pos h1 (by omega)
  refine h g C w' h1 ⟨h2.os, h2.tape, h2.output, ?_, fun k hk hne => ?_⟩
  · have := h2.size
    simp at this
    omega
  · exact (h2.block k (by simp; omega) hne).trans (heap_old hk)

theorem own_n64 {w : World} {B : Nat} {v : Value} {n : Nat} {f : Nat → Int} (h : w.ownsRow B 22 1 v n (ul f n)) : ∃ a C, v = .slice a n C ∧ n ≤ C ∧ C ≤ 9223372036854775807 ∧ N64 w a n f := by
  rcases h.2 with ⟨h1, h2⟩ | ⟨g, cap, cur, h1, _, _, h2, h3, _⟩
  · subst h1
    subst h2
    exact ⟨none, 0, rfl, Nat.le_refl _, by omega, .inl rfl⟩
  · subst h1
    unfold maxLen at h3
    refine ⟨some ⟨g, 0, none⟩, cap, rfl, h2, by omega, .inr ⟨g, 0, rfl, (h.lt g rfl).2, fun j hj => ?_⟩⟩
    have := h.cells (g := g) rfl j _ (ul_at f n j hj)
    rw [addr_add] at this
    exact this

attribute [local go_sem ↓] sv24_eq lv24_eq sv8_eq bd27_eq

set_option maxRecDepth 20000 in
set_option maxHeartbeats 1000000 in
theorem same_true (a b : Option Addr) (n c d : Nat) (f : Nat → Int) (w : World) (h1 : N64 w a n f) (h2 : N64 w b n f) (hn : n ≤ 9223372036854775807) :
    Calls Tryd.prog 12 #[.slice a n c, .slice b n d] w fun e w' => e = .returned (.bool true) ∧ Below w.heap.size w w' := by
  have H1 := hid h1
  have H2 := hid h2
  clear h1 h2
  go_enter Tryd.func12, Tryd.ntmps12
  go_wp2
  go_loopw [5] (fun c wr => ∃ k : Nat, k ≤ n ∧ c = .int .i64 k ∧ Below w.heap.size w wr) (fun c _ => n - (intOf c).toNat)
  case atStart => exact ⟨0, by omega, rfl, Below.refl _ _⟩
  case round =>
    obtain ⟨k, hk, rfl, hw⟩ := hrel
    by_cases hkn : k < n
    · rcases H1.out.below hw with h0 | ⟨b1, o1, ea, hb1, hc1⟩
      · omega
      rcases H2.out.below hw with h0 | ⟨b2, o2, eb, hb2, hc2⟩
      · omega
      subst ea
      subst eb
      have k1 : (k : Int) < (n : Int) := by omega
      have k2 : (0 : Int) ≤ (k : Int) := by omega
      have c1 := hc1 k hkn
      have c2 := hc2 k hkn
      have HW := hid hw
      clear hw hb1 hb2 hc1 hc2
      go_wp2
      go_quiet (fail)
      go_wp2
      go_roundw
      case rel => exact ⟨k + 1, by omega, by go_num, below_drewN HW.out _⟩
      case measure => simp [intOf]; omega
    · have HW := hid hw
      clear hw
      go_wp2
      go_ret
      exact ⟨rfl, HW.out⟩

end Go.Proofs.YtenhgoclfljjlaaDoor
