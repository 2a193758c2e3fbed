/-
  What the reference's Cut answers.
-/
import Derived.Test.YtehpfemlcjcabaaZaH
namespace Go.Proofs.Ytehpfemlcjcabaa.Z

open Go.RowKit

set_option linter.unusedVariables false

set_option linter.unusedSimpArgs false

theorem infoI : (Try.prog.info? 3).map (fun i => (i.zero, i.size, i.bytes)) = some (some (.int .i64 0), 1, 8) := by kernel_rfl

theorem own_bys {w : World} {B : Nat} {a : Option Addr} {n C : Nat} {m : Nat → Int} (h : w.ownsRow B 5 1 (.slice a n C) n (bl m n)) : Bys w a n C m := by
  rcases h.2 with ⟨h1, h0⟩ | ⟨g, cap, cur, h1, _⟩
  · cases h1
    exact .inl ⟨rfl, rfl, rfl⟩
  · cases h1
    obtain ⟨h2, h3, h4, h5, h6⟩ := own_cells h
    exact .inr (.inr ⟨g, 0, rfl, h4, h5, h3, fun j hj => by rw [Nat.zero_add]; exact h6 j hj⟩)

/-- Parts of the call's own, in a row of its own. -/
def PR (w : World) (B : Nat) (A : Nat → Option Addr) (L C : Nat → Nat) (f : Nat → Nat → Int) (r : Nat) (v : Value) : Prop :=
  w.ownsRow B 39 1 v r ((List.range r).map fun j => Value.slice (A j) (L j) (C j)) ∧ ∀ j, j < r → w.ownsRow B 5 1 (.slice (A j) (L j) (C j)) (L j) (bl (f j) (L j))

theorem PR.below {w w' : World} {B : Nat} {A : Nat → Option Addr} {L C : Nat → Nat} {f : Nat → Nat → Int} {r : Nat} {v : Value} (h : PR w B A L C f r v) (hb : Below w.heap.size w w') : PR w' B A L C f r v :=
  ⟨owns_below h.1 hb, fun j hj => owns_below (h.2 j hj) hb⟩

theorem owns_form {w : World} {B : Nat} {e : TypeId} {v : Value} {n : Nat} {xs : List Value} (h : w.ownsRow B e 1 v n xs) : ∃ a c, v = .slice a n c := by
  rcases h.2 with ⟨h1, h0⟩ | ⟨g, cap, cur, h1, _⟩
  · subst h0
    exact ⟨_, _, h1⟩
  · exact ⟨_, _, h1⟩

theorem owns_other {w w' : World} {B : Nat} {v u : Value} {n m : Nat} {xs ys : List Value} (h : w.ownsRow B 5 1 v n xs) (ho : w.ownsRow B 39 1 u m ys) (hg : w.grownBy w' u.ownBlock) : w'.ownsRow B 5 1 v n xs := by
  refine ownsRow_kept h fun g cur hc => hg.block g (Array.getElem?_eq_some_iff.1 hc).1 fun e => ?_
  rcases ho.2 with ⟨h1, _⟩ | ⟨g', cap, cur', h1, _, h3, _⟩
  · subst h1
    cases e
  · subst h1
    have e' : g = g' := by cases e; rfl
    subst e'
    rw [h3] at hc
    cases hc

theorem PR.step {w w' : World} {B : Nat} {A : Nat → Option Addr} {L C : Nat → Nat} {f : Nat → Nat → Int} {r : Nat} {v v' z : Value} (h : PR w B A L C f r v) (hz : w.ownsRow B 5 1 z (L r) (bl (f r) (L r)))
    (ho : w'.ownsRow B 39 1 v' (r + 1) (((List.range r).map fun j => Value.slice (A j) (L j) (C j)) ++ [z])) (hg : w.grownBy w' v.ownBlock) : ∃ A' C', PR w' B A' L C' f (r + 1) v' := by
  obtain ⟨a, c, rfl⟩ := owns_form hz
  refine ⟨fun j => if j = r then a else A j, fun j => if j = r then c else C j, ?_, fun j hj => ?_⟩
  · have e : ((List.range (r + 1)).map fun j => Value.slice (if j = r then a else A j) (L j) (if j = r then c else C j)) = ((List.range r).map fun j => Value.slice (A j) (L j) (C j)) ++ [.slice a (L r) c] := by
      rw [List.range_succ, List.map_append, List.map_cons, List.map_nil, if_pos rfl, if_pos rfl]
      congr 1
      refine List.map_congr_left fun j hj => ?_
      have := List.mem_range.1 hj
      rw [if_neg (by omega), if_neg (by omega)]
    rw [e]
    exact ho
  · dsimp only
    by_cases e : j = r
    · subst e
      rw [if_pos rfl, if_pos rfl]
      exact owns_other hz h.1 hg
    · rw [if_neg e, if_neg e]
      exact owns_other (h.2 j (by omega)) h.1 hg

attribute [local go_sem ↓] sl22_eq

end Go.Proofs.Ytehpfemlcjcabaa.Z
