/-
  Numbers handed in, copied by append.
-/

import Derived.Test.YtlidilnakiphiaaDoorLQ
namespace Go.Proofs.YtlidilnakiphiaaDoor

open Go.RowKit

set_option linter.unusedVariables false

set_option linter.unusedSimpArgs false

set_option maxRecDepth 20000

/-- The numbers of a slice, whatever it is, with its room. -/
def L64 (w : World) (a : Option Addr) (len cap : Nat) (f : Nat → Int) : Prop :=
  (a = none ∧ len = 0 ∧ cap = 0) ∨ (∃ x, a = some x ∧ len = 0) ∨ ∃ b off, a = some ⟨b, off, none⟩ ∧ b < w.heap.size ∧ ∀ j, j < len → w.cell? ⟨b, off + j, none⟩ = some (.int .u64 (f j))

theorem L64.below {w w' : World} {a : Option Addr} {len cap : Nat} {f : Nat → Int} (h : L64 w a len cap f) (hb : Below w.heap.size w w') : L64 w' a len cap f := by
  rcases h with h | h | ⟨b, off, h1, h2, h3⟩
  · exact .inl h
  · exact .inr (.inl h)
  · exact .inr (.inr ⟨b, off, h1, Nat.lt_of_lt_of_le h2 hb.size, fun j hj => (below_cell hb h2).trans (h3 j hj)⟩)

/-- Numbers, as values. -/
def ul (f : Nat → Int) (n : Nat) : List Value := (List.range n).map fun i => Value.int .u64 (f i)

theorem ul_len (f : Nat → Int) (n : Nat) : (ul f n).length = n := by simp [ul]

theorem ul_one (f : Nat → Int) (n : Nat) : ∀ u ∈ ul f n, u.oneCell' = true := by
  intro u hu
  obtain ⟨i, _, rfl⟩ := List.mem_map.1 hu
  rfl

theorem ul_get (f : Nat → Int) (n j : Nat) (u : Value) (h : (ul f n)[j]? = some u) : j < n ∧ u = .int .u64 (f j) := by
  have hj := (List.getElem?_eq_some_iff.1 h).1
  rw [ul_len] at hj
  refine ⟨hj, ?_⟩
  unfold ul at h
  rw [List.getElem?_map, List.getElem?_range hj] at h
  simpa using h.symm

theorem ul_at (f : Nat → Int) (n j : Nat) (hj : j < n) : (ul f n)[j]? = some (.int .u64 (f j)) := by
  unfold ul
  rw [List.getElem?_map, List.getElem?_range hj]
  rfl

/-- append of numbers, as it runs. -/
def ap64 (ty : TypeId) (x y : Value) : Sem Value := Builtin.append_ #[37, 37] ty #[x, y]

theorem ap64_own (W : World) (B : Nat) (v : Value) (n : Nat) (xs : List Value) (hown : W.ownsRow B 22 1 v n xs) (a : Option Addr) (len cap : Nat) (f : Nat → Int) (hb : L64 W a len cap f) (hbd : n + len ≤ 17592186044416) (hB : B ≤ W.heap.size) (ty : TypeId) :
    ∃ v' w', (ap64 ty v (.slice a len cap)).run Tryd.prog W = .ok v' w' ∧ w'.ownsRow B 22 1 v' (n + len) (xs ++ ul f len) ∧ W.grownBy w' v.ownBlock := by
  obtain ⟨i, hi, hz0, hz1, hz2⟩ := info_parts info64
  rcases hb with ⟨rfl, rfl, rfl⟩ | ⟨x0, rfl, rfl⟩ | ⟨b, off, rfl, hbl, hc⟩
  · have h := run_append_owned_none (P := Tryd.prog) (w := W) B 37 ty 22 i 1 Tryd.underlying37 hi _ n xs hown
    exact ⟨_, _, h, by simpa [ul] using hown, ⟨rfl, rfl, rfl, Nat.le_refl _, fun _ _ _ => rfl⟩⟩
  · obtain ⟨v', w', hr, ho', hg, _⟩ := run_append_own_at (P := Tryd.prog) W B 37 ty 22 i (.int .u64 0) 1 8 Tryd.underlying37 hi hz0 hz1 hz2 rfl (by decide) v n xs hown x0 0 cap (ul f 0) (by rw [ul_len])
      (fun j u hj => by
        have := (ul_get f 0 j u hj).1
        omega) (ul_one f 0) (by unfold maxLen; omega) (by omega) hB
    exact ⟨v', w', hr, ho', hg⟩
  · obtain ⟨v', w', hr, ho', hg, _⟩ := run_append_own_at (P := Tryd.prog) W B 37 ty 22 i (.int .u64 0) 1 8 Tryd.underlying37 hi hz0 hz1 hz2 rfl (by decide) v n xs hown ⟨b, off, none⟩ len cap (ul f len) (by rw [ul_len, Nat.mul_one])
      (fun j u hj => by
        obtain ⟨h1, rfl⟩ := ul_get f len j u hj
        rw [addr_add]
        exact hc j h1) (ul_one f len) (by unfold maxLen; omega) (by omega) hB
    exact ⟨v', w', hr, ho', hg⟩

theorem wpO_append_is {P : Program} {o : Oper} {a : Act} {w : World} {K : Act → World → Prop} {Q : Exit → Act → World → Prop} (s x : Operand)
    (ho : o.op = .call { callee := .builtin .append, args := #[s, x], argTypes := #[37, 37] }) (ws wx v : Value) (w' : World) (hs : a.eval s = ws) (hx : a.eval x = wx)
    (hrun : (ap64 o.type ws wx).run P w = .ok v w') (h : K (a.put o.dst v) w') : Oper.wp P o a w K Q := by
  unfold ap64 at hrun
  unfold Oper.wp execOp
  simp only [ho, resolve, invoke, builtin, Sem.run_bind, Sem.run_pure, Result.andThen_ok, List.map_toArray, List.map_cons, List.map_nil, hs, hx, hrun]
  exact h

theorem wpL_append_is {P : Program} {ops : Array Oper} {rest : List Oper} {o : Oper} {a : Act} {w : World} {Q : Exit → Act → World → Prop} (hgd : o.guard = none) (s x : Operand)
    (ho : o.op = .call { callee := .builtin .append, args := #[s, x], argTypes := #[37, 37] }) (ws wx v : Value) (w' : World) (hs : a.eval s = ws) (hx : a.eval x = wx)
    (hrun : (ap64 o.type ws wx).run P w = .ok v w') (h : wpList P ops Q rest (a.put o.dst v) w') : wpList P ops Q (o :: rest) a w :=
  wpList_plain hgd fun K hK => wpO_append_is s x ho ws wx v w' hs hx hrun (hK _ _ h)

/-- A copy of numbers by append. -/
theorem ap64_copy (W W0 : World) (a : Option Addr) (len cap : Nat) (f : Nat → Int) (hb : L64 W0 a len cap f) (h0 : Below W0.heap.size W0 W) (hbd : len ≤ 17592186044416) (ty : TypeId) :
    ∃ v' w', (ap64 ty (.slice (some ⟨W.heap.size, 0, none⟩) 0 0) (.slice a len cap)).run Tryd.prog (W.alloc (.cells #[] 22)) = .ok v' w' ∧ w'.ownsRow W.heap.size 22 1 v' len (ul f len) ∧ Below W.heap.size W w' := by
  have hown : (W.alloc (.cells #[] 22)).ownsRow W.heap.size 22 1 (.slice (some ⟨W.heap.size, 0, none⟩) 0 0) 0 [] := World.ownsRow_made _ #[] 0 (Nat.le_refl _) (Nat.zero_le _) rfl
  have hB : Below W.heap.size W (W.alloc (.cells #[] 22)) := (Below.refl _ _).alloc (Nat.le_refl _) _
  obtain ⟨v', w', hr, ho, hg⟩ := ap64_own (W.alloc (.cells #[] 22)) W.heap.size _ 0 [] hown a len cap f (hb.below (h0.trans (hB.mono h0.size))) (by omega) (by simp) ty
  rw [Nat.zero_add, List.nil_append] at ho
  exact ⟨v', w', hr, ho, below_grown hB hown (by simp) hg⟩

end Go.Proofs.YtlidilnakiphiaaDoor
