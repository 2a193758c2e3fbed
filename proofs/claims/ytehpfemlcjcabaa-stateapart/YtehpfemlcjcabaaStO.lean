/-
  StateBounds, walked.
-/

import Derived.Test.YtehpfemlcjcabaaStN
namespace Go.Proofs.Ytehpfemlcjcabaa

open Go.RowKit

set_option linter.unusedVariables false

set_option linter.unusedSimpArgs false

set_option maxRecDepth 20000

theorem BI.drew {w V : World} {y : Nat} {Y : VState} (h : BI w y V Y) : BI w y V.drew Y := h.below ((Below.refl _ _).drew)

theorem nl_snoc (z : Nat → Int) (n : Nat) : nl z n ++ [.int .u64 0] = nl (fun j => if j < n then z j else 0) (n + 1) := by
  unfold nl
  rw [List.range_succ, List.map_append]
  congr 1
  · refine List.map_congr_left fun j hj => ?_
    show Value.int .u64 (z j) = Value.int .u64 (if j < n then z j else 0)
    rw [if_pos (List.mem_range.1 hj)]
  · simp

theorem src_zero {w : World} {g : Nat} {t : TypeId} (h : w.heap[g]? = some (.cells #[.int .u64 0] t)) : Src w 1 (some ⟨g, 0, none⟩) 1 1 [.int .u64 0] :=
  ⟨(fun h => by cases h), rfl, (fun u hu => by rw [List.mem_singleton.1 hu]; rfl), .inr ⟨g, 0, rfl, some_lt h, (fun j u hj => by
    have hlt := (List.getElem?_eq_some_iff.1 hj).1
    obtain rfl : j = 0 := by simpa using hlt
    rw [row_cell h]
    simpa using hj)⟩⟩

/-- One balance more. -/
theorem BI.more {w V W : World} {y : Nat} {Y : VState} {a : Option Addr} {c : Nat} (h : BI w y V Y) (hy : w.heap.size ≤ y) (ho : W.ownsRow w.heap.size 22 1 (.slice a (Y.f12.n + 1) c) (Y.f12.n + 1) (nl Y.f12.z Y.f12.n ++ [.int .u64 0])) (hg : V.grownBy W (Value.ownBlock (.slice Y.f12.a Y.f12.n Y.f12.c))) :
    InR (W.setCell ⟨y, 722, none⟩ (.slice a (Y.f12.n + 1) c)) (moreV Y a c (fun j => if j < Y.f12.n then Y.f12.z j else 0)) ∧ (W.setCell ⟨y, 722, none⟩ (.slice a (Y.f12.n + 1) c)).heap[y]? = some (.cells (cel (sState (moreV Y a c (fun j => if j < Y.f12.n then Y.f12.z j else 0)))) 49) ∧ Below w.heap.size w (W.setCell ⟨y, 722, none⟩ (.slice a (Y.f12.n + 1) c)) ∧ (∃ v, W.cell? ⟨y, 722, none⟩ = some v) ∧ W.frozen? ⟨y, 722, none⟩ = false := by
  obtain ⟨D, h1, h2, h3⟩ := h.cpd.o21
  have hne : some y ≠ Value.ownBlock (.slice Y.f12.a Y.f12.n Y.f12.c) := fun e => own_ne h.cpd.o12 h.row (by decide) e.symm
  have hrow : W.heap[y]? = some (.cells (cel (sState Y)) 49) := (hg.block y (some_lt h.row) hne).trans h.row
  have g11 : W.ownsRow w.heap.size 64 86 (.slice Y.f11.a Y.f11.n Y.f11.c) Y.f11.n (flat (fun i => celL (sValidator (Y.f11.z i))) Y.f11.n) := by
    refine h.cpd.o11.kept hg ?_
    rcases h.cpd.o12.2 with ⟨h0, _⟩ | ⟨g, cap, cur, h0, _, hc, _⟩
    · rw [h0]
      cases (Value.ownBlock (.slice Y.f11.a Y.f11.n Y.f11.c)) with
      | none => exact .inl rfl
      | some b => exact .inr (fun e => by cases e)
    · rw [h0]
      exact .inr (own_ne h.cpd.o11 hc (by decide))
  have g21 : W.ownsRow D 22 1 (.slice Y.f21.a Y.f21.n Y.f21.c) Y.f21.n (nl Y.f21.z Y.f21.n) := by
    refine h3.kept hg ?_
    cases ha : Y.f12.a with
    | none =>
      cases (Value.ownBlock (.slice Y.f21.a Y.f21.n Y.f21.c)) with
      | none => exact .inl rfl
      | some b => exact .inr (fun e => by cases e)
    | some ad => exact .inr (own_base h3 (h1 ad ha))
  have hk : Kept y W (W.setCell ⟨y, 722, none⟩ (.slice a (Y.f12.n + 1) c)) := (Kept.refl y W).setCell _ _
  have hbW : Below w.heap.size w W := by
    refine ⟨hg.os.trans h.bel.os, hg.tape.trans h.bel.tape, hg.output.trans h.bel.output, Nat.le_trans h.bel.size hg.size, fun k hk' => (hg.block k (Nat.lt_of_lt_of_le hk' h.bel.size) (fun e => ?_)).trans (h.bel.block k hk')⟩
    have := (h.cpd.o12.lt k e.symm).1
    omega
  refine ⟨⟨?_, ?_, ?_⟩, ?_, hbW.trans (hk.below hy hbW.size), some_cell hrow (by omega), row_frozen hrow _⟩
  · exact own_els (own_keptB g11 hk (own_ne g11 hrow (by decide))) (fun i => by rw [celL_len]; rfl)
  · rw [nl_snoc] at ho
    exact own_nms (own_keptB ho hk (own_ne ho hrow (by decide)))
  · exact own_nms (own_keptB g21 hk (own_ne g21 hrow (by decide)))
  · exact (row_set hrow 722 _).trans (congrArg (fun c => some (Obj.cells c 49)) (st_12 Y a (Y.f12.n + 1) c))

attribute [local go_sem ↓] lvState_eq svState_eq ixU_eq

end Go.Proofs.Ytehpfemlcjcabaa
