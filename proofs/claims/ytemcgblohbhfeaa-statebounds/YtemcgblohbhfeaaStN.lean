/-
  StateBounds: less in a right state leaves it right; one balance more does not.
-/

import Derived.Test.YtemcgblohbhfeaaStK
import Derived.Test.YtemcgblohbhfeaaStM
import Derived.BigRegion

namespace Go.Proofs.Ytemcgblohbhfeaa

open Go.RowKit

set_option linter.unusedVariables false

set_option linter.unusedSimpArgs false

set_option maxRecDepth 20000

theorem own_block {w : World} {B : Nat} {t : TypeId} {k : Nat} {a : Option Addr} {n c : Nat} {xs : List Value} (h : w.ownsRow B t k (.slice a n c) n xs) (hn : 0 < n) : ∃ g cur, a = some ⟨g, 0, none⟩ ∧ B ≤ g ∧ w.heap[g]? = some (.cells cur t) ∧ n * k ≤ cur.size ∧ cur.toList.take (n * k) = xs := by
  rcases h.2 with ⟨_, h0⟩ | ⟨g, cap, cur, hv, hB, hg, h1, _, hs, ht⟩
  · omega
  · cases hv
    exact ⟨g, cur, rfl, hB, hg, by rw [hs]; exact Nat.mul_le_mul_right k h1, ht⟩

theorem own_set {w : World} {B : Nat} {g n c K : Nat} {z : Nat → Int} (v : Int) (h : w.ownsRow B 22 1 (.slice (some ⟨g, 0, none⟩) n c) n (nl z n)) (hK : K < n) : (w.setCell ⟨g, K, none⟩ (.int .u64 v)).ownsRow B 22 1 (.slice (some ⟨g, 0, none⟩) n c) n (nl (fun j => if j = K then v else z j) n) := by
  refine ⟨by rw [nl_len, Nat.mul_one], ?_⟩
  rcases h.2 with ⟨h0, _⟩ | ⟨g', cap, cur, hv, hB, hg, h1, h2, hs, ht⟩
  · cases h0
  · cases hv
    refine .inr ⟨g, c, _, rfl, hB, row_set hg K _, h1, h2, by simpa using hs, ?_⟩
    apply List.ext_getElem?
    intro j
    by_cases hj : j < n
    · rw [List.getElem?_take_of_lt (by omega), Array.getElem?_toList, nl_at _ _ _ hj, Array.getElem?_setIfInBounds]
      by_cases e : K = j
      · subst e
        rw [if_pos rfl, if_pos (by rw [hs]; omega), if_pos rfl]
      · rw [if_neg e, if_neg (fun h => e h.symm), ← nl_at z n j hj, ← ht, List.getElem?_take_of_lt (by omega), Array.getElem?_toList]
    · rw [List.getElem?_eq_none (by rw [List.length_take]; omega), List.getElem?_eq_none (by rw [nl_len]; omega)]

theorem own_keptB {w w' : World} {B k b : Nat} {t : TypeId} {v : Value} {n : Nat} {xs : List Value} (h : w.ownsRow B t k v n xs) (hk : Kept b w w') (hne : v.ownBlock ≠ some b) : w'.ownsRow B t k v n xs := by
  refine ⟨h.1, ?_⟩
  rcases h.2 with h1 | ⟨g, cap, cur, rfl, h2, h3, h4⟩
  · exact .inl h1
  · exact .inr ⟨g, cap, cur, rfl, h2, (hk.block g (some_lt h3) (fun e => hne (by rw [e]; rfl))).trans h3, h4⟩

theorem own_ne {w : World} {B k b : Nat} {t t' : TypeId} {v : Value} {n : Nat} {xs : List Value} {C : Array Value} (h : w.ownsRow B t k v n xs) (hb : w.heap[b]? = some (.cells C t')) (ht : t ≠ t') : v.ownBlock ≠ some b := by
  rcases h.2 with ⟨rfl, _⟩ | ⟨g, cap, cur, rfl, h2, h3, h4⟩
  · intro e
    cases e
  · intro e
    cases e
    rw [hb] at h3
    cases h3
    exact ht rfl

theorem own_base {w : World} {B k b : Nat} {t : TypeId} {v : Value} {n : Nat} {xs : List Value} (h : w.ownsRow B t k v n xs) (hb : b < B) : v.ownBlock ≠ some b := fun e => by
  have := (h.lt b e).1
  omega

/-- What stands while a copy is changed. -/
structure BI (w : World) (y : Nat) (V : World) (Y : VState) : Prop where
  bel : Below w.heap.size w V
  row : V.heap[y]? = some (.cells (cel (sState Y)) 49)
  cpd : Cpd w.heap.size V Y

theorem BI.inR {w : World} {y : Nat} {V : World} {Y : VState} (h : BI w y V Y) : InR V Y := by
  obtain ⟨D, _, _, h21⟩ := h.cpd.o21
  exact ⟨own_els h.cpd.o11 (fun i => by rw [celL_len]; rfl), own_nms h.cpd.o12, own_nms h21⟩

theorem BI.below {w V V' : World} {y : Nat} {Y : VState} (h : BI w y V Y) (hb : Below V.heap.size V V') : BI w y V' Y := by
  obtain ⟨D, h1, h2, h3⟩ := h.cpd.o21
  exact ⟨h.bel.trans (hb.mono h.bel.size), (hb.block y (some_lt h.row)).trans h.row, ⟨ownsRow_below h.cpd.o11 hb, ownsRow_below h.cpd.o12 hb, D, h1, h2, ownsRow_below h3 hb⟩⟩

/-- A balance, a score changed. -/
theorem BI.set12 {w V : World} {y K g : Nat} {Y : VState} (h : BI w y V Y) (v : Int) (hK : K < Y.f12.n) (hg : Y.f12.a = some ⟨g, 0, none⟩) : BI w y (V.setCell ⟨g, K, none⟩ (.int .u64 v)) { Y with f12 := ⟨Y.f12.a, Y.f12.n, Y.f12.c, fun j => if j = K then v else Y.f12.z j⟩ } := by
  obtain ⟨D, h1, h2, h3⟩ := h.cpd.o21
  have o12 := h.cpd.o12
  rw [hg] at o12
  obtain ⟨g', cur, e, hB, hc, _⟩ := own_block o12 (by omega)
  cases e
  have hk : Kept g V (V.setCell ⟨g, K, none⟩ (.int .u64 v)) := (Kept.refl g V).setCell _ _
  have hgy : g ≠ y := fun e => by
    rw [e, h.row] at hc
    cases hc
  refine ⟨h.bel.trans (hk.below hB h.bel.size), (hk.block y (some_lt h.row) (fun e => hgy e.symm)).trans h.row, ⟨?_, ?_, D, h1, h2, ?_⟩⟩
  · exact own_keptB h.cpd.o11 hk (own_ne h.cpd.o11 hc (by decide))
  · show World.ownsRow _ _ _ _ (.slice Y.f12.a _ _) _ _
    rw [hg]
    exact own_set v o12 hK
  · exact own_keptB h3 hk (own_base h3 (h1 _ hg))

theorem BI.set21 {w V : World} {y K g : Nat} {Y : VState} (h : BI w y V Y) (v : Int) (hK : K < Y.f21.n) (hg : Y.f21.a = some ⟨g, 0, none⟩) : BI w y (V.setCell ⟨g, K, none⟩ (.int .u64 v)) { Y with f21 := ⟨Y.f21.a, Y.f21.n, Y.f21.c, fun j => if j = K then v else Y.f21.z j⟩ } := by
  obtain ⟨D, h1, h2, h3⟩ := h.cpd.o21
  rw [hg] at h3
  obtain ⟨g', cur, e, hB, hc, _⟩ := own_block h3 (by omega)
  cases e
  have hk : Kept g V (V.setCell ⟨g, K, none⟩ (.int .u64 v)) := (Kept.refl g V).setCell _ _
  have hgy : g ≠ y := fun e => by
    rw [e, h.row] at hc
    cases hc
  refine ⟨h.bel.trans (hk.below (by omega) h.bel.size), (hk.block y (some_lt h.row) (fun e => hgy e.symm)).trans h.row, ⟨?_, ?_, D, h1, h2, ?_⟩⟩
  · exact own_keptB h.cpd.o11 hk (own_ne h.cpd.o11 hc (by decide))
  · refine own_keptB h.cpd.o12 hk (fun e => ?_)
    cases ha : Y.f12.a with
    | none => rw [ha] at e; cases e
    | some ad =>
      rw [ha] at e
      have := h1 ad ha
      have e' : some ad.block = some g := e
      cases e'
      omega
  · show World.ownsRow _ _ _ _ (.slice Y.f21.a _ _) _ _
    rw [hg]
    exact own_set v h3 hK

/-- A cell of the state itself changed. -/
theorem BI.setY {w V : World} {y : Nat} {Y Y' : VState} (h : BI w y V Y) (hy : w.heap.size ≤ y) (i : Nat) (v : Value) (he : (cel (sState Y)).setIfInBounds i v = cel (sState Y')) (e11 : Y'.f11 = Y.f11) (e12 : Y'.f12 = Y.f12) (e21 : Y'.f21 = Y.f21) : BI w y (V.setCell ⟨y, i, none⟩ v) Y' := by
  obtain ⟨D, h1, h2, h3⟩ := h.cpd.o21
  have hk : Kept y V (V.setCell ⟨y, i, none⟩ v) := (Kept.refl y V).setCell _ _
  refine ⟨h.bel.trans (hk.below hy h.bel.size), (row_set h.row i v).trans (congrArg (fun c => some (Obj.cells c 49)) he), ⟨?_, ?_, D, ?_, h2, ?_⟩⟩
  · rw [e11]
    exact own_keptB h.cpd.o11 hk (own_ne h.cpd.o11 h.row (by decide))
  · rw [e12]
    exact own_keptB h.cpd.o12 hk (own_ne h.cpd.o12 h.row (by decide))
  · rw [e12]
    exact h1
  · rw [e21]
    exact own_keptB h3 hk (own_ne h3 h.row (by decide))

theorem st_4 (x : VState) (n : Int) : (cel (sState x)).setIfInBounds 43 (.int .u64 n) = cel (sState { x with f4 := { x.f4 with f0 := n } }) := by
  have e := cel_set1 ((sState x).take 6) (.nu x.f4.f0) (.nu n) ((sState x).drop 7) rfl rfl
  rw [show slen ((sState x).take 6) = 43 by kernel_rfl, show (sState x).take 6 ++ [Seg.nu x.f4.f0] ++ (sState x).drop 7 = sState x by kernel_rfl, show (sState x).take 6 ++ [Seg.nu n] ++ (sState x).drop 7 = sState { x with f4 := { x.f4 with f0 := n } } by kernel_rfl] at e
  exact e

/-- The place that an integer names among n. -/
theorem place (i : Int) (n : Nat) (hn : 0 < n) : ∃ K : Nat, K < n ∧ (i.tmod n + n).tmod n = (K : Int) ∧ -(n : Int) < i.tmod n ∧ i.tmod n < n := by
  have h1 : -(n : Int) < i.tmod n := by
    have := Int.lt_tmod_of_pos i (show (0 : Int) < n by omega)
    omega
  have h2 : i.tmod n < n := Int.tmod_lt_of_pos i (by omega)
  have h3 : 0 ≤ (i.tmod n + n).tmod n := Int.tmod_nonneg _ (by omega)
  have h4 : (i.tmod n + n).tmod n < n := Int.tmod_lt_of_pos _ (by omega)
  exact ⟨((i.tmod n + n).tmod n).toNat, by omega, by omega, h1, h2⟩

end Go.Proofs.Ytemcgblohbhfeaa
