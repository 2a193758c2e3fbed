/-
  Committees compared.
-/

import Derived.Test.YtpabbglbaimadaaDoorPkH
import Derived.DeepKeys

namespace Go.Proofs.YtpabbglbaimadaaDoor

open Go.RowKit

set_option linter.unusedVariables false

set_option linter.unusedSimpArgs false

set_option maxRecDepth 20000

theorem mapM_all {α β : Type} {f : α → Option β} : ∀ {l : List α}, (∀ i ∈ l, ∃ b, f i = some b) → ∃ bs, l.mapM f = some bs
  | [], _ => ⟨[], by simp⟩
  | i :: l, h => by
    obtain ⟨b, hb⟩ := h i (List.mem_cons_self ..)
    obtain ⟨bs, hbs⟩ := mapM_all (l := l) fun j hj => h j (List.mem_cons_of_mem _ hj)
    exact ⟨b :: bs, by simp [List.mapM_cons, hb, hbs]⟩

theorem lits_u8 (d : Nat) (c : Int) (h : 0 ≤ c ∧ c < 256) : Tryd.prog.keyLits (d + 1) 5 [.int .u8 c] = some [.int .u8 c] := by
  have hw : (Lit.int .u8 c).wf = true := by
    have : IntKind.u8.min = 0 ∧ IntKind.u8.max = 255 := by decide
    simp [Lit.wf, this]
    omega
  simp [Program.keyLits, Tryd.underlying5, hw]

theorem lits_arr {t e : TypeId} {n d : Nat} {cs : List Value} (hu : Tryd.prog.underlying t = some (.array n e)) (hl : cs.length = Tryd.prog.cellsOf t) (h : ∀ i, i < n → ∃ la, Tryd.prog.keyLits d e ((cs.drop (i * Tryd.prog.cellsOf e)).take (Tryd.prog.cellsOf e)) = some la) : ∃ la, Tryd.prog.keyLits (d + 1) t cs = some la := by
  obtain ⟨bs, hbs⟩ := mapM_all (l := List.range n) (f := fun i => Tryd.prog.keyLits d e ((cs.drop (i * Tryd.prog.cellsOf e)).take (Tryd.prog.cellsOf e))) fun i hi => h i (List.mem_range.1 hi)
  refine ⟨bs.flatten, ?_⟩
  unfold Program.keyLits
  rw [hu]
  show (if cs.length = Tryd.prog.cellsOf t then _ else none) = _
  rw [if_pos hl, hbs]
  rfl

/-- The bytes of a row, from a place on. -/
theorem bl_part (f : Nat → Int) (n o k : Nat) (h : o + k ≤ n) : ((bl f n).drop o).take k = bl (fun j => f (o + j)) k := by
  apply List.ext_getElem?
  intro j
  rw [List.getElem?_take]
  by_cases hj : j < k
  · rw [if_pos hj, List.getElem?_drop]
    unfold bl
    rw [List.getElem?_map, List.getElem?_range (by omega), List.getElem?_map, List.getElem?_range hj]
    rfl
  · rw [if_neg hj]
    unfold bl
    rw [List.getElem?_eq_none (by simp; omega)]

theorem lits_key (d : Nat) (f : Nat → Int) (h : ∀ j, j < 48 → 0 ≤ f j ∧ f j < 256) : ∃ la, Tryd.prog.keyLits (d + 2) 44 (bl f 48) = some la := by
  have c1 : Tryd.prog.cellsOf 5 = 1 := by kernel_rfl
  have c2 : Tryd.prog.cellsOf 44 = 48 := by kernel_rfl
  refine lits_arr Tryd.underlying44 (by rw [bl_len, c2]) fun i hi => ?_
  rw [c1, Nat.mul_one, bl_part f 48 i 1 (by omega)]
  exact ⟨_, lits_u8 d (f (i + 0)) (h i hi)⟩

theorem lits_keys (d : Nat) (f : Nat → Int) (h : ∀ j, j < 384 → 0 ≤ f j ∧ f j < 256) : ∃ la, Tryd.prog.keyLits (d + 3) 45 (bl f 384) = some la := by
  have c2 : Tryd.prog.cellsOf 44 = 48 := by kernel_rfl
  have c3 : Tryd.prog.cellsOf 45 = 384 := by kernel_rfl
  refine lits_arr Tryd.underlying45 (by rw [bl_len, c3]) fun i hi => ?_
  rw [c2, bl_part f 384 (i * 48) 48 (by omega)]
  exact lits_key d _ fun j hj => h _ (by omega)

theorem lits_comm (f : Nat → Int) (h : ∀ j, j < 432 → 0 ≤ f j ∧ f j < 256) : ∃ la, Tryd.prog.keyLits 5 47 (bl f 432) = some la := by
  have c2 : Tryd.prog.cellsOf 44 = 48 := by kernel_rfl
  have c3 : Tryd.prog.cellsOf 45 = 384 := by kernel_rfl
  have c4 : Tryd.prog.cellsOf 47 = 432 := by kernel_rfl
  obtain ⟨l1, h1⟩ := lits_keys 1 f (fun j hj => h j (by omega))
  obtain ⟨l2, h2⟩ := lits_key 2 (fun j => f (384 + j)) (fun j hj => h _ (by omega))
  have e1 : ((bl f 432).drop 0).take 384 = bl f 384 := by
    rw [bl_part f 432 0 384 (by omega)]
    exact congrArg (fun g => bl g 384) (funext fun j => by rw [Nat.zero_add])
  have e2 := bl_part f 432 384 48 (by omega)
  refine ⟨l1 ++ (l2 ++ []), ?_⟩
  have hu := Tryd.underlying47
  unfold Program.keyLits
  rw [hu]
  show (if (bl f 432).length = Tryd.prog.cellsOf 47 ∧ _ then _ else none) = _
  rw [if_pos ⟨by rw [bl_len, c4], by kernel_rfl⟩]
  have h1' : Tryd.prog.keyLits 4 45 (bl f 384) = some l1 := h1
  have h2' : Tryd.prog.keyLits 4 44 (bl (fun j => f (384 + j)) 48) = some l2 := h2
  rw [List.drop_zero] at e1
  simp [List.mapM_cons, c2, c3, e1, e2, h1', h2']

/-- A committee is equal to itself. -/
theorem eqC (w : World) (c : VCommittee) (h : OkCommittee c) : (Op.equalIn 10000 47 (.agg (cel (sCommittee c))) (.agg (cel (sCommittee c)))).run Tryd.prog w = .ok true w := by
  obtain ⟨la, hla⟩ := lits_comm (fun j => if j < 384 then c.f0.f0 j else c.f1 (j - 384)) fun j hj => by
    by_cases h' : j < 384
    · rw [if_pos h']; exact h.1 j h'
    · rw [if_neg h']; exact h.2 (j - 384) (by omega)
  have hk : Tryd.prog.keyTypeAt 5 47 = true := by kernel_rfl
  have hf : (Value.agg (cel (sCommittee c))).formed Tryd.prog 47 = true := by
    simp only [Value.formed, Tryd.underlying47]
    rw [cel_size, slCommittee]
    kernel_rfl
  have hl : Tryd.prog.keyLits 5 47 (Value.agg (cel (sCommittee c))).cells.toList = some la := by
    show Tryd.prog.keyLits 5 47 (cel (sCommittee c)).toList = some la
    rw [cel_C, vs_list]
    exact hla
  obtain ⟨r, h1, h2⟩ := run_equalIn_deep (P := Tryd.prog) 9995 5 47 hk w 5 5 (.agg (cel (sCommittee c))) (.agg (cel (sCommittee c))) la la hf hf hl hl
  rw [h2.2 rfl] at h1
  exact h1

end Go.Proofs.YtpabbglbaimadaaDoor
