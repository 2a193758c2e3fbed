/-
  The fixed answers that every statement of layer 10 asks first are right.
  StateBounds: less in a right state leaves it right; one balance more does not.
  A copy of a state, whole.
  The bytes of states: in range, and which differ.
  What stands while a copy of a state is changed.
  StateApart, walked.
-/
import Derived.Test.YtlplmdhlelgihaaGreatDoorStD
import Derived.Test.YtlplmdhlelgihaaGreatDoorQD
import Derived.Test.YtlplmdhlelgihaaGreatDoorQG
import Derived.Test.YtlplmdhlelgihaaGreatDoorStL
import Derived.BigRegion

import Derived.Laws.BitsAllLaws

namespace Go.Proofs.YtlplmdhlelgihaaGreatDoor

open Go.RowKit

set_option linter.unusedVariables false

set_option linter.unusedSimpArgs false

set_option maxRecDepth 20000

def V3 : VState := { oState with f2 := 3 }

theorem fitsS (x : VState) : Z.Fits zS (pL x) 24 := by
  intro r hr h0
  have c : ∀ r, r < 24 → zS r = 0 ∨ (∃ k : Nat, zS r = (k : Int) ∧ ∀ y : VState, pL y r = k) := by
    intro r hr
    rcases r with _ | _ | _ | _ | _ | _ | _ | _ | _ | _ | _ | _ | _ | _ | _ | _ | _ | _ | _ | _ | _ | _ | _ | _ | r
    all_goals first | exact .inl rfl | exact .inr ⟨_, rfl, fun _ => rfl⟩ | omega
  rcases c r hr with h | ⟨k, h1, h2⟩
  · exact absurd h h0
  · rw [h2 x, h1]

theorem nmsS {w : World} {sa : Nat} (hs : w.heap[sa]? = some (.cells (vs .i64 24 zS) 3)) : Z.Nms .i64 w (some ⟨sa, 0, none⟩) 24 zS := .inr ⟨sa, 0, rfl, some_lt hs, fun j hj => by rw [Nat.zero_add]; exact row_int hs j hj⟩

attribute [local go_sem ↓] lvState_eq svState_eq bdState_eq

end Go.Proofs.YtlplmdhlelgihaaGreatDoor

namespace Go.Proofs.YtlplmdhlelgihaaGreatDoor

open Go.RowKit

set_option linter.unusedVariables false

set_option linter.unusedSimpArgs false

set_option maxRecDepth 20000

theorem own_keptB {w w' : World} {B k b : Nat} {t : TypeId} {v : Value} {n : Nat} {xs : List Value} (h : w.ownsRow B t k v n xs) (hk : Kept b w w') (hne : v.ownBlock ≠ some b) : w'.ownsRow B t k v n xs := by
  refine ⟨h.1, ?_⟩
  rcases h.2 with h1 | ⟨g, cap, cur, rfl, h2, h3, h4⟩
  · exact .inl h1
  · exact .inr ⟨g, cap, cur, rfl, h2, (hk.block g (some_lt h3) (fun e => hne (by rw [e]; rfl))).trans h3, h4⟩

theorem own_ne {w : World} {B k b : Nat} {t t' : TypeId} {v : Value} {n : Nat} {xs : List Value} {C : Array Value} (h : w.ownsRow B t k v n xs) (hb : w.heap[b]? = some (.cells C t')) (ht : t ≠ t') : v.ownBlock ≠ some b := by
  rcases h.2 with ⟨rfl, _⟩ | ⟨g, cap, cur, rfl, h2, h3, h4⟩
  · intro e
    cases e
  · intro e
    cases e
    rw [hb] at h3
    cases h3
    exact ht rfl

/-- The place that an integer names among n. -/
theorem place (i : Int) (n : Nat) (hn : 0 < n) : ∃ K : Nat, K < n ∧ (i.tmod n + n).tmod n = (K : Int) ∧ -(n : Int) < i.tmod n ∧ i.tmod n < n := by
  have h1 : -(n : Int) < i.tmod n := by
    have := Int.lt_tmod_of_pos i (show (0 : Int) < n by omega)
    omega
  have h2 : i.tmod n < n := Int.tmod_lt_of_pos i (by omega)
  have h3 : 0 ≤ (i.tmod n + n).tmod n := Int.tmod_nonneg _ (by omega)
  have h4 : (i.tmod n + n).tmod n < n := Int.tmod_lt_of_pos _ (by omega)
  exact ⟨((i.tmod n + n).tmod n).toNat, by omega, by omega, h1, h2⟩

end Go.Proofs.YtlplmdhlelgihaaGreatDoor

namespace Go.Proofs.YtlplmdhlelgihaaGreatDoor

open Go.RowKit

set_option linter.unusedVariables false

set_option linter.unusedSimpArgs false

set_option maxRecDepth 20000

/-- Alike but for where the lists lie, all fields. -/
structure SimF (x X : VState) : Prop where
  e0 : X.f0 = x.f0
  e1 : X.f1 = x.f1
  e2 : X.f2 = x.f2
  e3 : X.f3 = x.f3
  e4 : X.f4 = x.f4
  e5 : X.f5 = x.f5
  e6 : X.f6 = x.f6
  l7 : X.f7.n = x.f7.n
  z7 : X.f7.z = x.f7.z
  e8 : X.f8 = x.f8
  l9 : X.f9.n = x.f9.n
  z9 : X.f9.z = x.f9.z
  e10 : X.f10 = x.f10
  l11 : X.f11.n = x.f11.n
  z11 : X.f11.z = x.f11.z
  l12 : X.f12.n = x.f12.n
  z12 : X.f12.z = x.f12.z
  e13 : X.f13 = x.f13
  e14 : X.f14 = x.f14
  l15 : X.f15.n = x.f15.n
  z15 : X.f15.z = x.f15.z
  l16 : X.f16.n = x.f16.n
  z16 : X.f16.z = x.f16.z
  e17 : X.f17 = x.f17
  e18 : X.f18 = x.f18
  e19 : X.f19 = x.f19
  e20 : X.f20 = x.f20
  l21 : X.f21.n = x.f21.n
  z21 : X.f21.z = x.f21.z
  e22 : X.f22 = x.f22
  e23 : X.f23 = x.f23

/-- The copied lists. -/
structure CpdF (B : Nat) (w : World) (X : VState) : Prop where
  o7 : w.ownsRow B 24 32 (.slice X.f7.a X.f7.n X.f7.c) X.f7.n (bl X.f7.z (32 * X.f7.n))
  o9 : w.ownsRow B 34 65 (.slice X.f9.a X.f9.n X.f9.c) X.f9.n (flat (fun i => celL (sEth1 (X.f9.z i))) X.f9.n)
  o11 : w.ownsRow B 62 86 (.slice X.f11.a X.f11.n X.f11.c) X.f11.n (flat (fun i => celL (sValidator (X.f11.z i))) X.f11.n)
  o12 : w.ownsRow B 22 1 (.slice X.f12.a X.f12.n X.f12.c) X.f12.n (nl X.f12.z X.f12.n)
  o15 : w.ownsRow B 5 1 (.slice X.f15.a X.f15.n X.f15.c) X.f15.n (bl X.f15.z X.f15.n)
  o16 : w.ownsRow B 5 1 (.slice X.f16.a X.f16.n X.f16.c) X.f16.n (bl X.f16.z X.f16.n)
  o21 : w.ownsRow B 22 1 (.slice X.f21.a X.f21.n X.f21.c) X.f21.n (nl X.f21.z X.f21.n)
  d15 : ∀ ad ad', X.f15.a = some ad → X.f16.a = some ad' → ad.block ≠ ad'.block
  d12 : ∀ ad ad', X.f12.a = some ad → X.f21.a = some ad' → ad.block ≠ ad'.block

attribute [local go_sem ↓] lvState_eq svState_eq

end Go.Proofs.YtlplmdhlelgihaaGreatDoor

namespace Go.Proofs.YtlplmdhlelgihaaGreatDoor

open Go.RowKit

set_option linter.unusedVariables false

set_option linter.unusedSimpArgs false

set_option maxRecDepth 20000

/-- The bytes of a state. -/
def mS (x : VState) (j : Nat) : Int := (Z.layC zS (pF x) (pL x) 24).getD j 0

theorem mS_len (x : VState) : (Z.layC zS (pF x) (pL x) 24).length = tL x := Z.layC_len zS (pF x) (pL x) 24 (fitsS x)

theorem mS_bl (x : VState) : Z.iv (Z.layC zS (pF x) (pL x) 24) = bl (mS x) (tL x) := by
  rw [Z.iv_bl, mS_len]
  rfl

end Go.Proofs.YtlplmdhlelgihaaGreatDoor

namespace Go.Proofs.YtlplmdhlelgihaaGreatDoor

open Go.RowKit

set_option linter.unusedVariables false

set_option linter.unusedSimpArgs false

set_option maxRecDepth 20000

structure BF (w : World) (y : Nat) (V : World) (Y : VState) : Prop where
  bel : Below w.heap.size w V
  row : V.heap[y]? = some (.cells (cel (sState Y)) 49)
  cpd : CpdF w.heap.size V Y

theorem own_byF {w : World} {B : Nat} {a : Option Addr} {n c : Nat} {z : Nat → Int} (h : w.ownsRow B 5 1 (.slice a n c) n (bl z n)) : Bys w a n c z := by
  obtain ⟨a', c', e, hb⟩ := own_at h
  cases e
  exact hb

theorem own_rtF {w : World} {B : Nat} {a : Option Addr} {n c : Nat} {z : Nat → Int} (h : w.ownsRow B 24 32 (.slice a n c) n (bl z (32 * n))) : Rts w a n c z := by
  rcases h.2 with ⟨hv, h0⟩ | ⟨g, cap, cur, hv, hB, hg, h1, h2, hs, ht⟩
  · cases hv
    exact .inl ⟨rfl, rfl, rfl⟩
  · cases hv
    refine .inr (.inr ⟨g, 0, rfl, h1, some_lt hg, fun j hj => ?_⟩)
    have := bl_at z (32 * n) j hj
    rw [← ht, List.getElem?_take_of_lt (by omega), Array.getElem?_toList] at this
    rw [Nat.zero_add, row_cell hg, this]

theorem BF.inW {w : World} {y : Nat} {V : World} {Y : VState} (h : BF w y V Y) : InW V Y :=
  ⟨own_rtF h.cpd.o7, own_els h.cpd.o9 (fun i => by rw [celL_len]; rfl), own_els h.cpd.o11 (fun i => by rw [celL_len]; rfl), own_nms h.cpd.o12, own_byF h.cpd.o15, own_byF h.cpd.o16, own_nms h.cpd.o21⟩

theorem CpdF.below {B : Nat} {V V' : World} {Y : VState} (h : CpdF B V Y) (hb : Below V.heap.size V V') : CpdF B V' Y :=
  ⟨ownsRow_below h.o7 hb, ownsRow_below h.o9 hb, ownsRow_below h.o11 hb, ownsRow_below h.o12 hb, ownsRow_below h.o15 hb, ownsRow_below h.o16 hb, ownsRow_below h.o21 hb, h.d15, h.d12⟩

theorem BF.below {w V V' : World} {y : Nat} {Y : VState} (h : BF w y V Y) (hb : Below V.heap.size V V') : BF w y V' Y :=
  ⟨h.bel.trans (hb.mono h.bel.size), (hb.block y (some_lt h.row)).trans h.row, h.cpd.below hb⟩

theorem BF.drew {w V : World} {y : Nat} {Y : VState} (h : BF w y V Y) : BF w y V.drew Y := h.below ((Below.refl _ _).drew)

/-- A cell of the state itself changed. -/
theorem BF.setY {w V : World} {y : Nat} {Y Y' : VState} (h : BF w y V Y) (hy : w.heap.size ≤ y) (i : Nat) (v : Value) (he : (cel (sState Y)).setIfInBounds i v = cel (sState Y')) (e7 : Y'.f7 = Y.f7) (e9 : Y'.f9 = Y.f9) (e11 : Y'.f11 = Y.f11) (e12 : Y'.f12 = Y.f12) (e15 : Y'.f15 = Y.f15) (e16 : Y'.f16 = Y.f16) (e21 : Y'.f21 = Y.f21) : BF w y (V.setCell ⟨y, i, none⟩ v) Y' := by
  have hk : Kept y V (V.setCell ⟨y, i, none⟩ v) := (Kept.refl y V).setCell _ _
  refine ⟨h.bel.trans (hk.below hy h.bel.size), (row_set h.row i v).trans (congrArg (fun c => some (Obj.cells c 49)) he), ⟨?_, ?_, ?_, ?_, ?_, ?_, ?_, ?_, ?_⟩⟩
  · rw [e7]
    exact own_keptB h.cpd.o7 hk (own_ne h.cpd.o7 h.row (by decide))
  · rw [e9]
    exact own_keptB h.cpd.o9 hk (own_ne h.cpd.o9 h.row (by decide))
  · rw [e11]
    exact own_keptB h.cpd.o11 hk (own_ne h.cpd.o11 h.row (by decide))
  · rw [e12]
    exact own_keptB h.cpd.o12 hk (own_ne h.cpd.o12 h.row (by decide))
  · rw [e15]
    exact own_keptB h.cpd.o15 hk (own_ne h.cpd.o15 h.row (by decide))
  · rw [e16]
    exact own_keptB h.cpd.o16 hk (own_ne h.cpd.o16 h.row (by decide))
  · rw [e21]
    exact own_keptB h.cpd.o21 hk (own_ne h.cpd.o21 h.row (by decide))
  · rw [e15, e16]
    exact h.cpd.d15
  · rw [e12, e21]
    exact h.cpd.d12

/-- A byte of a field changed in memory. -/
theorem cel_by_set (l1 l2 : List Seg) (N p : Nat) (g : Nat → Int) (v : Int) (h : p < N) : (cel (l1 ++ [.by N g] ++ l2)).setIfInBounds (slen l1 + p) (.int .u8 v) = cel (l1 ++ [.by N (fun j => if j = p then v else g j)] ++ l2) := by
  have e : ∀ u, celL [.by N u] = bl u N := fun u => by
    show (List.range N).map _ ++ [] = _
    rw [List.append_nil]
    rfl
  have hb : (bl g N).set p (.int .u8 v) = bl (fun j => if j = p then v else g j) N := by
    apply List.ext_getElem?
    intro j
    rw [List.getElem?_set]
    by_cases h1 : j < N
    · by_cases h2 : p = j
      · subst h2
        rw [if_pos rfl, if_pos (by rw [bl_len]; exact h), bl_at _ _ _ h, if_pos rfl]
      · rw [if_neg h2, bl_at _ _ _ h1, bl_at _ _ _ h1, if_neg (fun e => h2 e.symm)]
    · rw [if_neg (by omega), List.getElem?_eq_none (by rw [bl_len]; omega), List.getElem?_eq_none (by rw [bl_len]; omega)]
  unfold cel
  rw [celL_app, celL_app, celL_app, celL_app, e, e, ← hb, ← celL_len l1]
  simp only [List.setIfInBounds_toArray, List.append_assoc]
  rw [List.set_append_right _ _ (by omega), Nat.add_sub_cancel_left, List.set_append_left _ _ (by rw [bl_len]; exact h)]

theorem okF_sim {x X : VState} (h : SimF x X) (hx : OkState x) : OkState X := by
  refine ⟨by rw [h.e0]; exact hx.o0, by rw [h.e1]; exact hx.o1, by rw [h.e2]; exact hx.o2, by rw [h.e3]; exact hx.o3, by rw [h.e4]; exact hx.o4, by rw [h.e5]; exact hx.o5, by rw [h.e6]; exact hx.o6, fun j hj => by rw [h.z7]; exact hx.o7 j (by rw [← h.l7]; exact hj), by rw [h.e8]; exact hx.o8, fun j hj => by rw [h.z9]; exact hx.o9 j (by rw [← h.l9]; exact hj), by rw [h.e10]; exact hx.o10, fun j hj => by rw [h.z11]; exact hx.o11 j (by rw [← h.l11]; exact hj), fun j hj => by rw [h.z12]; exact hx.o12 j (by rw [← h.l12]; exact hj), by rw [h.e13]; exact hx.o13, by rw [h.e14]; exact hx.o14, fun j hj => by rw [h.z15]; exact hx.o15 j (by rw [← h.l15]; exact hj), fun j hj => by rw [h.z16]; exact hx.o16 j (by rw [← h.l16]; exact hj), by rw [h.e18]; exact hx.o18, by rw [h.e19]; exact hx.o19, by rw [h.e20]; exact hx.o20, fun j hj => by rw [h.z21]; exact hx.o21 j (by rw [← h.l21]; exact hj), by rw [h.e22]; exact hx.o22, by rw [h.e23]; exact hx.o23⟩

theorem mS_sim {x X : VState} (h : SimF x X) : qS X = qS x := by
  unfold qS
  rw [h.e0, h.e1, h.e2, h.e3, h.e4, h.e5, h.e6, h.l7, h.z7, h.e8, h.l9, h.z9, h.e10, h.l11, h.z11, h.l12, h.z12, h.e13, h.e14, h.l15, h.z15, h.l16, h.z16, h.e17, h.e18, h.e19, h.e20, h.l21, h.z21, h.e22, h.e23]

theorem fit_sim {x X : VState} (h : SimF x X) : fitB X = fitB x := by
  unfold fitB
  rw [h.l7, h.l9, h.l11, h.l12, h.l15, h.l16, h.l21]

end Go.Proofs.YtlplmdhlelgihaaGreatDoor

namespace Go.Proofs.YtlplmdhlelgihaaGreatDoor

open Go.RowKit

set_option linter.unusedVariables false

set_option linter.unusedSimpArgs false

set_option maxRecDepth 20000

theorem fitn {x : VState} (h : fitB x = true) : x.f7.n ≤ 1024 ∧ x.f9.n ≤ 8 ∧ x.f11.n ≤ 65536 ∧ x.f12.n ≤ 65536 ∧ x.f15.n ≤ 65536 ∧ x.f16.n ≤ 65536 ∧ x.f21.n ≤ 65536 := by
  unfold fitB at h
  simp only [Bool.and_eq_true, decide_eq_true_eq] at h
  omega

theorem tL_lt {x : VState} (h : fitB x = true) : tL x < 4294967296 := by
  have := fitn h
  rw [tL_is]
  omega

attribute [local go_sem ↓] lvState_eq svState_eq bd27_eq bs22_eq

end Go.Proofs.YtlplmdhlelgihaaGreatDoor
