/-
  What the reference's Next answers.
-/

import Derived.Test.YtlidilnakiphiaaDoorPkC
import Derived.Test.YtlidilnakiphiaaDoorPkG
import Derived.Test.YtlidilnakiphiaaDoorPkE
namespace Go.Proofs.YtlidilnakiphiaaDoor

open Go.RowKit

set_option linter.unusedVariables false

set_option linter.unusedSimpArgs false

set_option maxRecDepth 20000

theorem put_ints : ∀ (cs : List Int) (N o : Nat) (F : Nat → Int), putL (vs .u8 N F) o (cs.map (Value.int .u8)) = vs .u8 N (fun j => if o ≤ j ∧ j < o + cs.length then cs.getD (j - o) 0 else F j)
  | [], N, o, F => vs_congr fun j hj => by rw [if_neg (by simp)]
  | c :: cs, N, o, F => by
    show putL ((vs .u8 N F).setIfInBounds o (.int .u8 c)) (o + 1) (cs.map (Value.int .u8)) = _
    rw [vs_set, put_ints cs N (o + 1)]
    refine vs_congr fun j hj => ?_
    simp only [List.length_cons]
    by_cases h1 : j = o
    · subst h1
      rw [if_neg (by omega), if_pos rfl, if_pos (by omega), Nat.sub_self]
      rfl
    · by_cases h2 : o + 1 ≤ j ∧ j < o + 1 + cs.length
      · rw [if_pos h2, if_pos (by omega), show j - o = (j - (o + 1)) + 1 by omega]
        rfl
      · rw [if_neg h2, if_neg h1, if_neg (by omega)]

theorem put_bl (N o k : Nat) (F c : Nat → Int) : putL (vs .u8 N F) o (bl c k) = vs .u8 N (fun j => if o ≤ j ∧ j < o + k then c (j - o) else F j) := by
  have e : bl c k = ((List.range k).map c).map (Value.int .u8) := by unfold bl; rw [List.map_map]; rfl
  rw [e, put_ints]
  refine vs_congr fun j hj => ?_
  rw [List.length_map, List.length_range]
  by_cases h : o ≤ j ∧ j < o + k
  · rw [if_pos h, if_pos h, List.getD_eq_getElem?_getD, List.getElem?_map, List.getElem?_range (by omega)]
    rfl
  · rw [if_neg h, if_neg h]

/-- A committee's cells. -/
theorem cel_C (c : VCommittee) : cel (sCommittee c) = vs .u8 432 (fun j => if j < 384 then c.f0.f0 j else c.f1 (j - 384)) := by
  apply Array.ext'
  rw [vs_list]
  show (List.range 384).map _ ++ ((List.range 48).map _ ++ []) = _
  have h1 : (List.range 384).map (fun j => Value.int .u8 (c.f0.f0 j)) = (List.range 384).map (fun j => Value.int .u8 (if j < 384 then c.f0.f0 j else c.f1 (j - 384))) := List.map_congr_left fun j hj => by rw [if_pos (List.mem_range.1 hj)]
  have h2 : (List.range 48).map (fun j => Value.int .u8 (c.f1 j)) = (List.range 48).map ((fun j => Value.int .u8 (if j < 384 then c.f0.f0 j else c.f1 (j - 384))) ∘ fun j => 384 + j) := List.map_congr_left fun j hj => by
    show _ = Value.int .u8 (if 384 + j < 384 then _ else _)
    rw [if_neg (by omega), show 384 + j - 384 = j by omega]
  have h3 : bl (fun j => if j < 384 then c.f0.f0 j else c.f1 (j - 384)) 432 = (List.range 384).map (fun j => Value.int .u8 (if j < 384 then c.f0.f0 j else c.f1 (j - 384))) ++ (List.range 48).map ((fun j => Value.int .u8 (if j < 384 then c.f0.f0 j else c.f1 (j - 384))) ∘ fun j => 384 + j) := by
    unfold bl
    rw [show (432 : Nat) = 384 + 48 from rfl, List.range_add, List.map_append, List.map_map]
  refine Eq.trans ?_ h3.symm
  rw [List.append_nil, ← h1, ← h2]
  rfl

theorem lvC_run {w : World} {b : Nat} {c : VCommittee} {t : TypeId} (h : w.heap[b]? = some (.cells (cel (sCommittee c)) t)) : (lvCommittee ⟨b, 0, none⟩).run Tryd.prog w = .ok (.agg (cel (sCommittee c))) w :=
  loadAt_var (load_row h 47 _ Tryd.underlying47 rfl (by rw [cel_size, slCommittee]; kernel_rfl))

theorem lvKy_mid {w : World} {b o : Nat} {c : Nat → Int} (h : ∀ j, j < 48 → w.cell? ⟨b, o + j, none⟩ = some (.int .u8 (c j))) : (lvKy ⟨b, o, none⟩).run Tryd.prog w = .ok (.agg (vs .u8 48 c)) w := by
  have hr : w.rangeAt b o ((List.range 48).map fun i => Value.int .u8 (c i)) := by
    intro j v hj
    have hlt : j < 48 := by
      have := (List.getElem?_eq_some_iff.1 hj).1
      simpa using this
    rw [h j hlt]
    simp [hlt] at hj
    rw [hj]
  exact loadAt_var (run_loadAt_mid w b o 44 _ _ hr Tryd.underlying44 rfl (by rw [List.length_map, List.length_range]; kernel_rfl))

theorem svKy_mid {w : World} {b : Nat} {C : Array Value} {t : TypeId} (h : w.heap[b]? = some (.cells C t)) (o : Nat) (c : Nat → Int) (hn : o + 48 ≤ C.size) :
    (svKy ⟨b, o, none⟩ (.agg (vs .u8 48 c))).run Tryd.prog w = .ok () (w.setCells b o (bl c 48)) := by
  have h1 := run_storeVar_mid (P := Tryd.prog) w b o 44 (vs .u8 48 c) (by rw [vs_size]; exact there_row h o 48 hn) (by rw [vs_size]; kernel_rfl) (vs_one _ _ _)
  rw [vs_list] at h1
  exact h1

def bdC15 (ps : Array (Nat × Value)) : Sem Value := Instr.build 47 ps

theorem bdC15_eq (ps : Array (Nat × Value)) : Instr.build 47 ps = bdC15 ps := rfl

theorem bdC15_0 (W : World) : (bdC15 #[]).run Tryd.prog W = .ok (.agg (cel (sCommittee oCommittee))) W := by kernel_rfl

theorem seg_by0 (N : Nat) (f : Nat → Int) (l : List Seg) (j : Nat) (h : j < N) : (celL (.by N f :: l))[j]? = some (.int .u8 (f j)) := by
  show ((List.range N).map (fun i => Value.int .u8 (f i)) ++ celL l)[j]? = _
  rw [List.getElem?_append_left (by rw [List.length_map, List.length_range]; exact h), List.getElem?_map, List.getElem?_range h]
  rfl

def ix45 (x i : Value) : Sem Value := Instr.indexAt 45 x i

theorem ix45_eq (x i : Value) : Instr.indexAt 45 x i = ix45 x i := rfl

theorem ix45_run (w : World) (g o k : Nat) (h : k < 8) : (ix45 (.pointer (some ⟨g, o, none⟩)) (.int .i64 k)).run Tryd.prog w = .ok (.pointer (some ⟨g, o + 48 * k, none⟩)) w := by
  unfold ix45 Instr.indexAt
  have h1 : (0 : Int) ≤ (k : Int) ∧ (k : Int) < 8 := by omega
  simp only [asIntOf, Sem.run_bind, Sem.run_pure, Result.andThen_ok, run_underlying Tryd.underlying45]
  simp [h1.2, sizeKy, Instr.sureAddr, asAddr, addr_add, Nat.mul_comm]

theorem below_cells {B b : Nat} {w0 w : World} (hb : Below B w0 w) (hB : B ≤ b) : ∀ (l : List Value) (o : Nat), Below B w0 (w.setCells b o l) := by
  intro l
  induction l generalizing w with
  | nil => exact fun o => hb
  | cons v l ih => exact fun o => ih (hb.setCell (p := ⟨b, o, none⟩) hB v) (o + 1)

/-- The keys of the next committee, and that committee. -/
def kyF (x : VState) (j : Nat) : Int := (x.f11.z ((syL x).getD (j / 48) 0).toNat).f0 (j % 48)

def nxC (x : VState) : VCommittee := if syE x = 0 then ⟨⟨kyF x⟩, smV (kyF x) 8⟩ else oCommittee

def NxA (x : VState) (w : World) (e' : Ending) (w' : World) : Prop := e' = .returned (.tuple #[.agg (cel (sCommittee (nxC x))), .int .i64 (syE x)]) ∧ Below w.heap.size w w'

theorem sy_one (x : VState) : (syE x = 0 ∧ (syL x).length = 8 ∧ ∀ j, j < 8 → ∃ V : Nat, (syL x).getD j 0 = (V : Int) ∧ V < x.f11.n) ∨ (syE x = 7 ∧ syL x = []) := by
  rcases dw_one x.f11.z (acE x (x.f2 / 4 + 1)) (seedV x (x.f2 / 4 + 1) 7) 8 with ⟨h1, h2, h3⟩ | h
  · refine .inl ⟨h1, h2, fun j hj => ?_⟩
    have h4 := h3 _ (getD_mem (syL x) j (by show j < (dwL x.f11.z (acE x (x.f2 / 4 + 1)) (seedV x (x.f2 / 4 + 1) 7) 8).length; omega))
    obtain ⟨q0, q1, _⟩ := (acL_mem _ _ _ _).1 h4
    exact ⟨((syL x).getD j 0).toNat, by omega, by omega⟩
  · exact .inr h

attribute [local go_sem ↓] lvState_eq svState_eq bdState_eq lvValidator_eq svValidator_eq ixValidator_eq lvCommittee_eq svCommittee_eq bdC15_eq ixKy_eq lvKy_eq svKy_eq ix45_eq

end Go.Proofs.YtlidilnakiphiaaDoor
