/-
  What ShaTwos answers.
-/
import Derived.Test.YtjimdkpppgjokaaDoorShaN
import Derived.Test.YtjimdkpppgjokaaDoorShaQ
import Derived.Deep.RegionHeld3
namespace Go.Proofs.YtjimdkpppgjokaaDoor
open Go.RowKit
set_option linter.unusedVariables false
set_option linter.unusedSimpArgs false

/-- append, whole. -/
def ap22 (ty : TypeId) (x y : Value) : Sem Value := Builtin.append_ #[75, 75] ty #[x, y]
theorem ap22_eq (ty : TypeId) (x y : Value) : Builtin.append_ #[75, 75] ty #[x, y] = ap22 ty x y := rfl
theorem wp_append_is {P : Program} {o : Oper} {a : Act} {w : World} {K : Act → World → Prop} {Q : Exit → Act → World → Prop} (s x : Operand)
    (ho : o.op = .call { callee := .builtin .append, args := #[s, x], argTypes := #[75, 75] }) (ws wx v : Value) (w' : World) (hs : a.eval s = ws) (hx : a.eval x = wx)
    (hrun : (ap22 o.type ws wx).run P w = .ok v w') (h : K (a.put o.dst v) w') : Oper.wp P o a w K Q := by
  unfold ap22 at hrun
  unfold Oper.wp execOp
  simp only [ho, resolve, invoke, builtin, Sem.run_bind, Sem.run_pure, Result.andThen_ok, List.map_toArray, List.map_cons, List.map_nil, hs, hx, hrun]
  exact h
set_option maxRecDepth 20000 in
theorem ap_root (base : Nat) (W : World) (v : Value) (n : Nat) (m : Nat → Int) (hown : W.ownsRow base 5 1 v n (bl m n)) (b : Nat) (c : Nat → Int) (hb : ∀ j, j < 32 → W.cell? ⟨b, j, none⟩ = some (.int .u8 (c j))) (hm : ∀ j, j < 32 → m (n + j) = c j) (hbase : base ≤ W.heap.size) (hn : n ≤ 64) (ty : TypeId) :
    ∃ g C w', (ap22 ty v (.slice (some ⟨b, 0, none⟩) 32 32)).run Tryd.prog W = .ok (.slice (some ⟨g, 0, none⟩) (n + 32) C) w' ∧ w'.ownsRow base 5 1 (.slice (some ⟨g, 0, none⟩) (n + 32) C) (n + 32) (bl m (n + 32)) ∧ W.grownBy w' v.ownBlock := by
  obtain ⟨i, hi, hz0, hz1, hz2⟩ := info_parts info8
  obtain ⟨v', w', hr, ho, hg, _⟩ := run_append_own_at (P := Tryd.prog) W base 75 ty 5 i (.int .u8 0) 1 1 Tryd.underlying75 hi hz0 hz1 hz2 rfl (by decide) v n (bl m n) hown ⟨b, 0, none⟩ 32 32 (bl c 32) (by rw [bl_len])
    (fun j u hj => by
      obtain ⟨h1, rfl⟩ := bl_get c 32 j u hj
      rw [addr_add, Nat.zero_add]
      exact hb j h1) (bl_one c 32) (by unfold maxLen; omega) (by omega) hbase
  have e : bl m n ++ bl c 32 = bl m (n + 32) := by
    unfold bl
    rw [List.range_add, List.map_append, List.map_map]
    congr 1
    refine List.map_congr_left fun j hj => ?_
    show Value.int .u8 (c j) = Value.int .u8 (m (n + j))
    rw [hm j (List.mem_range.1 hj)]
  rw [e] at ho
  obtain ⟨g, C, rfl⟩ := owns_pos ho (by omega)
  exact ⟨g, C, w', hr, ho, hg⟩
theorem range_row {w : World} {b : Nat} {c : Nat → Int} {t : TypeId} (h : w.heap[b]? = some (.cells (vs .u8 32 c) t)) : w.rangeAt b 0 (vs .u8 32 c).toList := by
  intro j v hj
  rw [Nat.zero_add, row_cell h, ← hj]
  simp

attribute [local go_sem ↓] sv24_eq lv24_eq

end Go.Proofs.YtjimdkpppgjokaaDoor
