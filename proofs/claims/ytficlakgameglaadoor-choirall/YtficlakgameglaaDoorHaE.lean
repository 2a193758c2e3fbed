/-
  The padded bytes as a list of values (for the reference's Padded).
  What the reference's Padded answers.
  What ShaTwos answers.
-/
import Derived.Test.YtficlakgameglaaDoorHaC
import Derived.Test.YtficlakgameglaaDoorHaD
import Derived.Maps.AppendAt
import Derived.WalkKit
import Derived.Laws.AppendOwnNone
import Derived.Deep.RegionHeld3
namespace Go.Proofs.YtficlakgameglaaDoor

open Go.RowKit

set_option linter.unusedVariables false

theorem info8 : (Tryd.prog.info? 5).map (fun i => (i.zero, i.size, i.bytes)) = some (some (.int .u8 0), 1, 1) := by kernel_rfl

end Go.Proofs.YtficlakgameglaaDoor

namespace Go.Proofs.YtficlakgameglaaDoor

open Go.RowKit

set_option linter.unusedVariables false

/-- The bytes of a slice, whatever it is. -/
def Bys (w : World) (a : Option Addr) (len cap : Nat) (m : Nat → Int) : Prop :=
  (a = none ∧ len = 0 ∧ cap = 0) ∨ (∃ x, a = some x ∧ len = 0) ∨ ∃ b off, a = some ⟨b, off, none⟩ ∧ len ≤ cap ∧ cap ≤ 9223372036854775807 ∧ b < w.heap.size ∧ ∀ j, j < len → w.cell? ⟨b, off + j, none⟩ = some (.int .u8 (m j))

def bl (m : Nat → Int) (n : Nat) : List Value := (List.range n).map fun i => Value.int .u8 (m i)

theorem bl_len (m : Nat → Int) (n : Nat) : (bl m n).length = n := by simp [bl]

theorem bl_one (m : Nat → Int) (n : Nat) : ∀ u ∈ bl m n, u.oneCell' = true := by
  intro u hu
  obtain ⟨i, _, rfl⟩ := List.mem_map.1 hu
  rfl

theorem bl_get (m : Nat → Int) (n j : Nat) (u : Value) (h : (bl m n)[j]? = some u) : j < n ∧ u = .int .u8 (m j) := by
  have hj := (List.getElem?_eq_some_iff.1 h).1
  rw [bl_len] at hj
  refine ⟨hj, ?_⟩
  unfold bl at h
  rw [List.getElem?_map, List.getElem?_range hj] at h
  simpa using h.symm

theorem bl_at (m : Nat → Int) (n j : Nat) (hj : j < n) : (bl m n)[j]? = some (.int .u8 (m j)) := by
  unfold bl
  rw [List.getElem?_map, List.getElem?_range hj]
  rfl

theorem bl_snoc (m : Nat → Int) (n : Nat) (v : Int) (hv : v = m n) : bl m n ++ [.int .u8 v] = bl m (n + 1) := by
  unfold bl
  rw [List.range_succ, List.map_append, hv]
  rfl

theorem bl_congr {m m' : Nat → Int} {n : Nat} (h : ∀ i, i < n → m i = m' i) : bl m n = bl m' n := by
  unfold bl
  refine List.map_congr_left fun i hi => ?_
  rw [h i (List.mem_range.1 hi)]

theorem Bys.below {w w' : World} {a : Option Addr} {len cap : Nat} {m : Nat → Int} (h : Bys w a len cap m) (hb : Below w.heap.size w w') : Bys w' a len cap m := by
  rcases h with h | h | ⟨b, off, h1, h2, h3, h4, h5⟩
  · exact .inl h
  · exact .inr (.inl h)
  · exact .inr (.inr ⟨b, off, h1, h2, h3, Nat.lt_of_lt_of_le h4 hb.size, fun j hj => (below_cell hb h4).trans (h5 j hj)⟩)

theorem addr_add (b off j : Nat) : (⟨b, off, none⟩ : Addr).add j = ⟨b, off + j, none⟩ := by
  cases j <;> simp [Addr.add]

theorem owns_pos {W : World} {base : Nat} {e : TypeId} {size : Nat} {v : Value} {k : Nat} {xs : List Value} (h : W.ownsRow base e size v k xs) (hk : 0 < k) : ∃ g cap, v = .slice (some ⟨g, 0, none⟩) k cap := by
  rcases h.2 with ⟨_, h1⟩ | ⟨g, cap, cur, h1, _⟩
  · omega
  · exact ⟨g, cap, h1⟩

/-- append of bytes onto a slice of the call's own. -/
theorem wpList_append_bys (w : World) {ops : Array Oper} {rest : List Oper} {o : Oper} {a : Act} {Q : Exit → Act → World → Prop} (hgd : o.guard = none) (s x : Operand)
    (ho : o.op = .call { callee := .builtin .append, args := #[s, x], argTypes := #[39, 39] })
    (base : Nat) (v : Value) (n : Nat) (xs : List Value) (hs : a.eval s = v) (hown : w.ownsRow base 5 1 v n xs)
    (ao : Option Addr) (len cap : Nat) (m : Nat → Int) (hx : a.eval x = .slice ao len cap) (hb : Bys w ao len cap m) (hbd : n + len ≤ 140737488355328) (hbase : base ≤ w.heap.size)
    (h : ∀ v' w', w'.ownsRow base 5 1 v' (n + len) (xs ++ bl m len) → w.grownBy w' v.ownBlock → wpList Tryd.prog ops Q rest (a.put o.dst v') w') :
    wpList Tryd.prog ops Q (o :: rest) a w := by
  obtain ⟨i, hi, hz0, hz1, hz2⟩ := info_parts info8
  rcases hb with ⟨rfl, rfl, rfl⟩ | ⟨x0, rfl, rfl⟩ | ⟨b, off, rfl, hlc, hcm, hbl, hc⟩
  · refine wpList_append_own_none hgd s x 39 ho base 5 i 1 Tryd.underlying39 hi v n xs hs hown hx (h v w ?_ ⟨rfl, rfl, rfl, Nat.le_refl _, fun _ _ _ => rfl⟩)
    simpa [bl] using hown
  · exact wpList_append_own w hgd s x 39 ho base 5 i (.int .u8 0) 1 1 Tryd.underlying39 hi hz0 hz1 hz2 rfl (by decide) v n xs hs hown x0 0 cap (bl m 0) hx (by rw [bl_len])
      (fun j u hj => by
        have := (bl_get m 0 j u hj).1
        omega) (bl_one m 0) (by unfold maxLen; omega) (by omega) hbase (fun v' w' h1 h2 _ => h v' w' h1 h2)
  · exact wpList_append_own w hgd s x 39 ho base 5 i (.int .u8 0) 1 1 Tryd.underlying39 hi hz0 hz1 hz2 rfl (by decide) v n xs hs hown ⟨b, off, none⟩ len cap (bl m len) hx (by rw [bl_len]; omega)
      (fun j u hj => by
        obtain ⟨h1, rfl⟩ := bl_get m len j u hj
        rw [addr_add]
        exact hc j h1) (bl_one m len) (by unfold maxLen; omega) (by omega) hbase (fun v' w' h1 h2 _ => h v' w' h1 h2)

theorem below_grown {B : Nat} {w0 w w' : World} {v : Value} {n : Nat} {xs : List Value} {e : TypeId} (hb : Below B w0 w) (ho : w.ownsRow B e 1 v n xs) (hB : B ≤ w.heap.size) (hg : w.grownBy w' v.ownBlock) : Below B w0 w' :=
  ⟨hg.os.trans hb.os, hg.tape.trans hb.tape, hg.output.trans hb.output, Nat.le_trans hb.size hg.size, fun k hk => (hg.block k (by omega) (fun e => by have := (ho.lt k e.symm).1; omega)).trans (hb.block k hk)⟩

theorem own_cells {w : World} {B : Nat} {g n C : Nat} {m : Nat → Int} (h : w.ownsRow B 5 1 (.slice (some ⟨g, 0, none⟩) n C) n (bl m n)) : B ≤ g ∧ g < w.heap.size ∧ n ≤ C ∧ C ≤ 9223372036854775807 ∧ ∀ j, j < n → w.cell? ⟨g, j, none⟩ = some (.int .u8 (m j)) := by
  have hl := h.lt g rfl
  refine ⟨hl.1, hl.2, ?_, ?_, fun j hj => ?_⟩
  · rcases h.2 with ⟨h1, _⟩ | ⟨g', cap, cur, h1, _, _, h2, _⟩
    · cases h1
    · cases h1; exact h2
  · rcases h.2 with ⟨h1, _⟩ | ⟨g', cap, cur, h1, _, _, h2, h3, _⟩
    · cases h1
    · cases h1; unfold maxLen at h3; omega
  · have := h.cells (g := g) rfl j _ (bl_at m n j hj)
    rw [addr_add, Nat.zero_add] at this
    exact this

end Go.Proofs.YtficlakgameglaaDoor

namespace Go.Proofs.YtficlakgameglaaDoor

open Go.RowKit

set_option linter.unusedVariables false

set_option linter.unusedSimpArgs false

/-- append, whole. -/
def ap22 (ty : TypeId) (x y : Value) : Sem Value := Builtin.append_ #[39, 39] ty #[x, y]

theorem wp_append_is {P : Program} {o : Oper} {a : Act} {w : World} {K : Act → World → Prop} {Q : Exit → Act → World → Prop} (s x : Operand)
    (ho : o.op = .call { callee := .builtin .append, args := #[s, x], argTypes := #[39, 39] }) (ws wx v : Value) (w' : World) (hs : a.eval s = ws) (hx : a.eval x = wx)
    (hrun : (ap22 o.type ws wx).run P w = .ok v w') (h : K (a.put o.dst v) w') : Oper.wp P o a w K Q := by
  unfold ap22 at hrun
  unfold Oper.wp execOp
  simp only [ho, resolve, invoke, builtin, Sem.run_bind, Sem.run_pure, Result.andThen_ok, List.map_toArray, List.map_cons, List.map_nil, hs, hx, hrun]
  exact h

attribute [local go_sem ↓] sv24_eq lv24_eq

end Go.Proofs.YtficlakgameglaaDoor
