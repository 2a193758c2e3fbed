/-
  A copy of a state.
-/

import Derived.Test.YtenhgoclfljjlaaDoorStI
namespace Go.Proofs.YtenhgoclfljjlaaDoor

open Go.RowKit

set_option linter.unusedVariables false

set_option linter.unusedSimpArgs false

set_option maxRecDepth 20000

theorem owns_form {w : World} {B : Nat} {e : TypeId} {k : Nat} {v : Value} {n : Nat} {xs : List Value} (h : w.ownsRow B e k v n xs) : ∃ a c, v = .slice a n c := by
  rcases h.2 with ⟨rfl, rfl⟩ | ⟨g, cap, cur, rfl, _⟩
  · exact ⟨none, 0, rfl⟩
  · exact ⟨_, cap, rfl⟩

/-- Elements one behind the other. -/
def flat (e : Nat → List Value) : Nat → List Value
  | 0 => []
  | n + 1 => flat e n ++ e n

theorem flat_len {e : Nat → List Value} {k : Nat} (h : ∀ i, (e i).length = k) : ∀ n, (flat e n).length = n * k
  | 0 => by simp [flat]
  | n + 1 => by
    show (flat e n ++ e n).length = _
    rw [List.length_append, flat_len h n, h n, Nat.succ_mul]

theorem flat_at {e : Nat → List Value} {k : Nat} (h : ∀ i, (e i).length = k) (i j : Nat) (hj : j < k) : ∀ n, i < n → (flat e n)[i * k + j]? = (e i)[j]?
  | 0, hi => absurd hi (Nat.not_lt_zero _)
  | n + 1, hi => by
    show (flat e n ++ e n)[i * k + j]? = _
    by_cases hn : i < n
    · rw [List.getElem?_append_left (by rw [flat_len h n]; have : (i + 1) * k ≤ n * k := Nat.mul_le_mul_right k hn; rw [Nat.succ_mul] at this; omega), flat_at h i j hj n hn]
    · obtain rfl : i = n := by omega
      rw [List.getElem?_append_right (by rw [flat_len h]; omega), flat_len h, Nat.add_sub_cancel_left]

def nl (z : Nat → Int) (n : Nat) : List Value := (List.range n).map fun i => Value.int .u64 (z i)

/-- Rows of one's own, read. -/
theorem own_range {w : World} {B : Nat} {e : TypeId} {k : Nat} {a : Option Addr} {n c : Nat} {xs : List Value} (h : w.ownsRow B e k (.slice a n c) n xs) : n = 0 ∨ ∃ g, a = some ⟨g, 0, none⟩ ∧ B ≤ g ∧ g < w.heap.size ∧ w.rangeAt g 0 xs := by
  rcases h.2 with ⟨_, h0⟩ | ⟨g, cap, cur, hv, hB, hg, _, _, hs, ht⟩
  · exact .inl h0
  · cases hv
    refine .inr ⟨g, rfl, hB, some_lt hg, fun j u hj => ?_⟩
    rw [Nat.zero_add, row_cell hg, ← hj, ← ht]
    have hlt := (List.getElem?_eq_some_iff.1 hj).1
    rw [h.1] at hlt
    rw [List.getElem?_take_of_lt hlt, Array.getElem?_toList]

theorem own_els {w : World} {B k : Nat} {t : TypeId} {a : Option Addr} {n c : Nat} {e : Nat → List Value} (h : w.ownsRow B t k (.slice a n c) n (flat e n)) (hk : ∀ i, (e i).length = k) : Els w a n k e := by
  rcases own_range h with h0 | ⟨g, e1, _, hg, hr⟩
  · exact .inl h0
  · refine .inr ⟨g, 0, e1, hg, fun i hi j u hj => ?_⟩
    have hlt : j < k := by have := (List.getElem?_eq_some_iff.1 hj).1; rwa [hk i] at this
    have := hr (i * k + j) u (by rw [flat_at hk i j hlt n hi]; exact hj)
    rw [Nat.mul_comm i k] at this
    rw [Nat.zero_add] at this ⊢
    exact this

structure NilW (x : VState) : Prop where
  n9 : x.f9.a = none → x.f9.n = 0 ∧ x.f9.c = 0
  n11 : x.f11.a = none → x.f11.n = 0 ∧ x.f11.c = 0
  n12 : x.f12.a = none → x.f12.n = 0 ∧ x.f12.c = 0
  n21 : x.f21.a = none → x.f21.n = 0 ∧ x.f21.c = 0

attribute [local go_sem ↓] lvState_eq svState_eq

theorem retState1 {fn : Func} {R : Ending → World → Prop} {a : Act} {w' : World} (t : Tmp) (b : Nat) (c : VState) (ty : TypeId) (h : fn.results = #[.cell t 49]) (hd : a.defers = []) (ht : a.tmps.getD t undef = .pointer (some ⟨b, 0, none⟩)) (hr : w'.heap[b]? = some (.cells (cel (sState c)) ty))
    (hR : R (.returned (.agg (cel (sState c)))) w') : bodyPost Tryd.prog fn R .ret a w' :=
  bodyPost_ret (results_cell h a.tmps _ b _ ht (load_row hr 49 _ Tryd.underlying49 rfl (by rw [cel_size, slState]; kernel_rfl))) hd hR

end Go.Proofs.YtenhgoclfljjlaaDoor
