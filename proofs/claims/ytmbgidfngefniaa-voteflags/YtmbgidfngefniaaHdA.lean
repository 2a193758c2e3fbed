/-
  States that are answered; a copy's fields and votes changed; votes compared.
-/

import Derived.Test.YtmbgidfngefniaaStN
import Derived.Test.YtmbgidfngefniaaStL
import Derived.Test.YtmbgidfngefniaaStD
import Derived.Test.YtmbgidfngefniaaStF
import Derived.Test.YtmbgidfngefniaaStI
import Derived.Test.YtmbgidfngefniaaSkA
import Derived.Test.YtmbgidfngefniaaStP
import Derived.Test.YtmbgidfngefniaaStY
import Derived.Test.YtmbgidfngefniaaPkI
import Derived.Test.YtmbgidfngefniaaPkE
import Derived.Test.YtmbgidfngefniaaCmA
import Derived.Test.YtmbgidfngefniaaLkM
import Derived.Test.YtmbgidfngefniaaVfP
import Derived.Test.YtmbgidfngefniaaLkA
import Derived.Test.YtmbgidfngefniaaLkG
namespace Go.Proofs.Ytmbgidfngefniaa

open Go.RowKit

set_option linter.unusedVariables false

set_option linter.unusedSimpArgs false

set_option maxRecDepth 20000

def AwL (b : Nat) (a : Option Addr) (n : Nat) : Prop := n = 0 ∨ ∃ ad, a = some ad ∧ ad.block ≠ b

structure Aw (b : Nat) (X : VState) : Prop where
  q7 : AwL b X.f7.a X.f7.n
  q9 : AwL b X.f9.a X.f9.n
  q11 : AwL b X.f11.a X.f11.n
  q12 : AwL b X.f12.a X.f12.n
  q15 : AwL b X.f15.a X.f15.n
  q16 : AwL b X.f16.a X.f16.n
  q21 : AwL b X.f21.a X.f21.n

theorem rts_kept {w w' : World} {a : Option Addr} {n c b : Nat} {f : Nat → Int} (h : Rts w a n c f) (ha : AwL b a n) (hk : Kept b w w') : Rts w' a n c f := by
  rcases h with h | h | ⟨k, off, e, h1, hl, hc⟩
  · exact .inl h
  · exact .inr (.inl h)
  · rcases ha with h0 | ⟨ad, e2, hne⟩
    · exact .inr (.inl ⟨_, e, h0⟩)
    · rw [e] at e2
      cases e2
      exact .inr (.inr ⟨k, off, e, h1, Nat.lt_of_lt_of_le hl hk.size, fun j hj => (hk.cell hl hne).trans (hc j hj)⟩)

theorem bys_kept {w w' : World} {a : Option Addr} {n c b : Nat} {f : Nat → Int} (h : Bys w a n c f) (ha : AwL b a n) (hk : Kept b w w') : Bys w' a n c f := by
  rcases h with h | h | ⟨k, off, e, h1, h2, hl, hc⟩
  · exact .inl h
  · exact .inr (.inl h)
  · rcases ha with h0 | ⟨ad, e2, hne⟩
    · subst h0
      exact .inr (.inr ⟨k, off, e, h1, h2, Nat.lt_of_lt_of_le hl hk.size, fun j hj => absurd hj (Nat.not_lt_zero _)⟩)
    · rw [e] at e2
      cases e2
      exact .inr (.inr ⟨k, off, e, h1, h2, Nat.lt_of_lt_of_le hl hk.size, fun j hj => (hk.cell hl hne).trans (hc j hj)⟩)

theorem els_kept {w w' : World} {a : Option Addr} {n k b : Nat} {f : Nat → List Value} (h : Els w a n k f) (ha : AwL b a n) (hk : Kept b w w') : Els w' a n k f := by
  rcases h with h | ⟨g, off, e, hl, hc⟩
  · exact .inl h
  · rcases ha with h0 | ⟨ad, e2, hne⟩
    · exact .inl h0
    · rw [e] at e2
      cases e2
      exact .inr ⟨g, off, e, Nat.lt_of_lt_of_le hl hk.size, fun i hi j u hj => (hk.cell hl hne).trans (hc i hi j u hj)⟩

theorem nms_kept {w w' : World} {a : Option Addr} {n b : Nat} {f : Nat → Int} (h : Z.Nms .u64 w a n f) (ha : AwL b a n) (hk : Kept b w w') : Z.Nms .u64 w' a n f := by
  rcases h with h | ⟨g, off, e, hl, hc⟩
  · exact .inl h
  · rcases ha with h0 | ⟨ad, e2, hne⟩
    · exact .inl h0
    · rw [e] at e2
      cases e2
      exact .inr ⟨g, off, e, Nat.lt_of_lt_of_le hl hk.size, fun i hi => (hk.cell hl hne).trans (hc i hi)⟩

theorem InW.kept {w w' : World} {X : VState} {b : Nat} (h : InW w X) (ha : Aw b X) (hk : Kept b w w') : InW w' X := ⟨rts_kept h.i7 ha.q7 hk, els_kept h.i9 ha.q9 hk, els_kept h.i11 ha.q11 hk, nms_kept h.i12 ha.q12 hk, bys_kept h.i15 ha.q15 hk, bys_kept h.i16 ha.q16 hk, nms_kept h.i21 ha.q21 hk⟩

/-- Literals of bytes. -/
def litR (f : Nat → Int) (n : Nat) : List Lit := (List.range n).map fun j => Lit.int .u8 (f j)

theorem litR_inj {f g : Nat → Int} {n : Nat} : litR f n = litR g n ↔ ∀ j, j < n → f j = g j := by
  unfold litR
  rw [List.map_inj_left]
  constructor
  · intro h j hj
    exact (Lit.int.inj (h j (List.mem_range.2 hj))).2
  · intro h j hj
    rw [h j (List.mem_range.1 hj)]

theorem mapM_is {α β : Type} {f : α → Option β} {g : α → β} : ∀ {l : List α}, (∀ i ∈ l, f i = some (g i)) → l.mapM f = some (l.map g)
  | [], _ => by simp
  | i :: l, h => by
    have h1 := h i (List.mem_cons_self ..)
    have h2 := mapM_is (l := l) fun j hj => h j (List.mem_cons_of_mem _ hj)
    simp [List.mapM_cons, h1, h2]

theorem flat_sing {α β : Type} (g : α → β) : ∀ l : List α, (l.map fun i => [g i]).flatten = l.map g
  | [] => rfl
  | i :: l => by
    show [g i] ++ (l.map fun i => [g i]).flatten = _
    rw [flat_sing g l]
    rfl

theorem lits_by {t : TypeId} {n : Nat} (hu : Try.prog.underlying t = some (.array n 5)) (hc : Try.prog.cellsOf t = n) (d : Nat) (f : Nat → Int) (h : ∀ j, j < n → 0 ≤ f j ∧ f j < 256) : Try.prog.keyLits (d + 2) t (bl f n) = some (litR f n) := by
  have c1 : Try.prog.cellsOf 5 = 1 := by kernel_rfl
  have e : (List.range n).mapM (fun i => Try.prog.keyLits (d + 1) 5 (((bl f n).drop (i * Try.prog.cellsOf 5)).take (Try.prog.cellsOf 5))) = some ((List.range n).map fun i => [Lit.int .u8 (f i)]) := mapM_is fun i hi => by
    have hi := List.mem_range.1 hi
    rw [c1, Nat.mul_one, bl_part f n i 1 (by omega)]
    exact lits_u8 d (f (i + 0)) (h i hi)
  unfold Program.keyLits
  rw [hu]
  show (if (bl f n).length = Try.prog.cellsOf t then _ else none) = _
  rw [if_pos (by rw [bl_len, hc]), e]
  exact congrArg some (flat_sing (fun i => Lit.int .u8 (f i)) (List.range n))

theorem lits_u64 (d : Nat) (c : Int) (h : 0 ≤ c ∧ c < 18446744073709551616) : Try.prog.keyLits (d + 1) 22 [.int .u64 c] = some [.int .u64 c] := by
  have hw : (Lit.int .u64 c).wf = true := by
    have : IntKind.u64.min = 0 ∧ IntKind.u64.max = 18446744073709551615 := by decide
    simp [Lit.wf, this]
    omega
  simp [Program.keyLits, Try.underlying22, hw]

theorem eqR_iff {c d : Nat → Int} : eqR c d = true ↔ ∀ j, j < 32 → c j = d j := by
  unfold eqR
  rw [List.all_eq_true]
  constructor
  · intro h j hj
    exact eq_of_beq (h j (List.mem_range.2 hj))
  · intro h j hj
    rw [h j (List.mem_range.1 hj)]
    exact beq_self_eq_true _

end Go.Proofs.Ytmbgidfngefniaa
