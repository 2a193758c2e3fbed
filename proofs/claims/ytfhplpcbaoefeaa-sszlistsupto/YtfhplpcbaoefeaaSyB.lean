/-
  What the reference's Lay answers.
-/
import Derived.Test.YtfhplpcbaoefeaaSyA
namespace Go.Proofs.Ytfhplpcbaoefeaa
open Go.RowKit
set_option linter.unusedVariables false
set_option linter.unusedSimpArgs false

/-- append of bytes, and where the answer lies. -/
theorem wpList_append_bys_at (w : World) {ops : Array Oper} {rest : List Oper} {o : Oper} {a : Act} {Q : Exit → Act → World → Prop} (hgd : o.guard = none) (s x : Operand)
    (ho : o.op = .call { callee := .builtin .append, args := #[s, x], argTypes := #[22, 22] })
    (base : Nat) (v : Value) (n : Nat) (xs : List Value) (hs : a.eval s = v) (hown : w.ownsRow base 5 1 v n xs)
    (ao : Option Addr) (len cap : Nat) (m : Nat → Int) (hx : a.eval x = .slice ao len cap) (hb : Bys w ao len cap m) (hbd : n + len ≤ 140737488355328) (hbase : base ≤ w.heap.size)
    (h : ∀ v' w', w'.ownsRow base 5 1 v' (n + len) (xs ++ bl m len) → w.grownBy w' v.ownBlock → (v'.ownBlock = v.ownBlock ∨ v'.ownBlock = some w.heap.size) → wpList Try.prog ops Q rest (a.put o.dst v') w') :
    wpList Try.prog ops Q (o :: rest) a w := by
  obtain ⟨i, hi, hz0, hz1, hz2⟩ := info_parts info8
  rcases hb with ⟨rfl, rfl, rfl⟩ | ⟨x0, rfl, rfl⟩ | ⟨b, off, rfl, hlc, hcm, hbl, hc⟩
  · refine wpList_append_own_none hgd s x 22 ho base 5 i 1 Try.underlying22 hi v n xs hs hown hx (h v w ?_ ⟨rfl, rfl, rfl, Nat.le_refl _, fun _ _ _ => rfl⟩ (.inl rfl))
    simpa [bl] using hown
  · exact wpList_append_own_at w hgd s x 22 ho base 5 i (.int .u8 0) 1 1 Try.underlying22 hi hz0 hz1 hz2 rfl (by decide) v n xs hs hown x0 0 cap (bl m 0) hx (by rw [bl_len])
      (fun j u hj => by
        have := (bl_get m 0 j u hj).1
        omega) (bl_one m 0) (by unfold maxLen; omega) (by omega) hbase (fun v' w' h1 h2 _ h3 => h v' w' h1 h2 h3)
  · exact wpList_append_own_at w hgd s x 22 ho base 5 i (.int .u8 0) 1 1 Try.underlying22 hi hz0 hz1 hz2 rfl (by decide) v n xs hs hown ⟨b, off, none⟩ len cap (bl m len) hx (by rw [bl_len]; omega)
      (fun j u hj => by
        obtain ⟨h1, rfl⟩ := bl_get m len j u hj
        rw [addr_add]
        exact hc j h1) (bl_one m len) (by unfold maxLen; omega) (by omega) hbase (fun v' w' h1 h2 _ h3 => h v' w' h1 h2 h3)
/-- Two rows of the call's own, apart. -/
def Two (w : World) (B : Nat) (v : Value) (n : Nat) (xs : List Value) (u : Value) (m : Nat) (ys : List Value) : Prop :=
  w.ownsRow B 5 1 v n xs ∧ w.ownsRow B 5 1 u m ys ∧ ∀ k, v.ownBlock = some k → u.ownBlock ≠ some k
theorem Two.swap {w : World} {B : Nat} {v : Value} {n : Nat} {xs : List Value} {u : Value} {m : Nat} {ys : List Value} (h : Two w B v n xs u m ys) : Two w B u m ys v n xs :=
  ⟨h.2.1, h.1, fun k hk hv => h.2.2 k hv hk⟩
theorem Two.below {w w' : World} {B : Nat} {v : Value} {n : Nat} {xs : List Value} {u : Value} {m : Nat} {ys : List Value} (h : Two w B v n xs u m ys) (hb : Below w.heap.size w w') : Two w' B v n xs u m ys :=
  ⟨owns_below h.1 hb, owns_below h.2.1 hb, h.2.2⟩
theorem Two.step {w w' : World} {B : Nat} {v v' : Value} {n n' : Nat} {xs xs' : List Value} {u : Value} {m : Nat} {ys : List Value} (h : Two w B v n xs u m ys) (ho : w'.ownsRow B 5 1 v' n' xs') (hg : w.grownBy w' v.ownBlock) (hl : v'.ownBlock = v.ownBlock ∨ v'.ownBlock = some w.heap.size) : Two w' B v' n' xs' u m ys := by
  obtain ⟨h1, h2, h3⟩ := h
  refine ⟨ho, ?_, fun k hk hu => ?_⟩
  · refine ⟨h2.1, ?_⟩
    rcases h2.2 with h4 | ⟨g, cap, cur, h4, h5, h6, h7⟩
    · exact .inl h4
    · refine .inr ⟨g, cap, cur, h4, h5, ?_, h7⟩
      rw [← h6]
      refine hg.block g (Array.getElem?_eq_some_iff.1 h6).1 fun e => ?_
      exact h3 g e.symm (by rw [h4]; rfl)
  · rcases hl with hl | hl
    · exact h3 k (hl ▸ hk) hu
    · have := (h2.lt k hu).2
      rw [hl] at hk
      cases hk
      omega
/-- The bytes of an own row, by another list. -/
theorem owns_as {w : World} {B : Nat} {v : Value} {n n' : Nat} {xs xs' : List Value} (h : w.ownsRow B 5 1 v n xs) (hn : n = n') (hx : xs = xs') : w.ownsRow B 5 1 v n' xs' := by
  rw [← hn, ← hx]; exact h

end Go.Proofs.Ytfhplpcbaoefeaa
