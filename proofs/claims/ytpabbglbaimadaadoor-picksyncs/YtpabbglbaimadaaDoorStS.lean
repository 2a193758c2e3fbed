/-
  What stands while a copy of a state is changed.
-/

import Derived.Test.YtpabbglbaimadaaDoorStN
import Derived.Test.YtpabbglbaimadaaDoorStQ
import Derived.Test.YtpabbglbaimadaaDoorStK
import Derived.BigRegion

namespace Go.Proofs.YtpabbglbaimadaaDoor

open Go.RowKit

set_option linter.unusedVariables false

set_option linter.unusedSimpArgs false

set_option maxRecDepth 20000

structure BF (w : World) (y : Nat) (V : World) (Y : VState) : Prop where
  bel : Below w.heap.size w V
  row : V.heap[y]? = some (.cells (cel (sState Y)) 49)
  cpd : CpdF w.heap.size V Y

theorem own_byF {w : World} {B : Nat} {a : Option Addr} {n c : Nat} {z : Nat → Int} (h : w.ownsRow B 5 1 (.slice a n c) n (bl z n)) : Bys w a n c z := by
  obtain ⟨a', c', e, hb⟩ := own_at h
  cases e
  exact hb

theorem own_rtF {w : World} {B : Nat} {a : Option Addr} {n c : Nat} {z : Nat → Int} (h : w.ownsRow B 24 32 (.slice a n c) n (bl z (32 * n))) : Rts w a n c z := by
  rcases h.2 with ⟨hv, h0⟩ | ⟨g, cap, cur, hv, hB, hg, h1, h2, hs, ht⟩
  · cases hv
    exact .inl ⟨rfl, rfl, rfl⟩
  · cases hv
    refine .inr (.inr ⟨g, 0, rfl, h1, some_lt hg, fun j hj => ?_⟩)
    have := bl_at z (32 * n) j hj
    rw [← ht, List.getElem?_take_of_lt (by omega), Array.getElem?_toList] at this
    rw [Nat.zero_add, row_cell hg, this]

theorem BF.inW {w : World} {y : Nat} {V : World} {Y : VState} (h : BF w y V Y) : InW V Y :=
  ⟨own_rtF h.cpd.o7, own_els h.cpd.o9 (fun i => by rw [celL_len]; rfl), own_els h.cpd.o11 (fun i => by rw [celL_len]; rfl), own_nms h.cpd.o12, own_byF h.cpd.o15, own_byF h.cpd.o16, own_nms h.cpd.o21⟩

theorem CpdF.below {B : Nat} {V V' : World} {Y : VState} (h : CpdF B V Y) (hb : Below V.heap.size V V') : CpdF B V' Y :=
  ⟨ownsRow_below h.o7 hb, ownsRow_below h.o9 hb, ownsRow_below h.o11 hb, ownsRow_below h.o12 hb, ownsRow_below h.o15 hb, ownsRow_below h.o16 hb, ownsRow_below h.o21 hb, h.d15, h.d12⟩

theorem BF.below {w V V' : World} {y : Nat} {Y : VState} (h : BF w y V Y) (hb : Below V.heap.size V V') : BF w y V' Y :=
  ⟨h.bel.trans (hb.mono h.bel.size), (hb.block y (some_lt h.row)).trans h.row, h.cpd.below hb⟩

theorem BF.drew {w V : World} {y : Nat} {Y : VState} (h : BF w y V Y) : BF w y V.drew Y := h.below ((Below.refl _ _).drew)

theorem okF_sim {x X : VState} (h : SimF x X) (hx : OkState x) : OkState X := by
  refine ⟨by rw [h.e0]; exact hx.o0, by rw [h.e1]; exact hx.o1, by rw [h.e2]; exact hx.o2, by rw [h.e3]; exact hx.o3, by rw [h.e4]; exact hx.o4, by rw [h.e5]; exact hx.o5, by rw [h.e6]; exact hx.o6, fun j hj => by rw [h.z7]; exact hx.o7 j (by rw [← h.l7]; exact hj), by rw [h.e8]; exact hx.o8, fun j hj => by rw [h.z9]; exact hx.o9 j (by rw [← h.l9]; exact hj), by rw [h.e10]; exact hx.o10, fun j hj => by rw [h.z11]; exact hx.o11 j (by rw [← h.l11]; exact hj), fun j hj => by rw [h.z12]; exact hx.o12 j (by rw [← h.l12]; exact hj), by rw [h.e13]; exact hx.o13, by rw [h.e14]; exact hx.o14, fun j hj => by rw [h.z15]; exact hx.o15 j (by rw [← h.l15]; exact hj), fun j hj => by rw [h.z16]; exact hx.o16 j (by rw [← h.l16]; exact hj), by rw [h.e18]; exact hx.o18, by rw [h.e19]; exact hx.o19, by rw [h.e20]; exact hx.o20, fun j hj => by rw [h.z21]; exact hx.o21 j (by rw [← h.l21]; exact hj), by rw [h.e22]; exact hx.o22, by rw [h.e23]; exact hx.o23⟩

end Go.Proofs.YtpabbglbaimadaaDoor
