/-
  The fixed answers that every statement of layer 10 asks first are right.
  StateBounds: less in a right state leaves it right; one balance more does not.
  The bytes of states: in range, and which differ.
  What stands while a copy of a state is changed.
  StateApart, walked.
  Keys in a row, and what the reference's Sum answers.
  The statements' own few: a state with some validators; and their awake, by what the program's functions answer.
  What the program's functions of layer 15 have to answer, and the statements' own alone and awake.
  Lists of a copied state changed cell by cell.
  What changes of a copied state do; who proposes in states that differ where it does not matter.
-/
import Derived.Test.YtpnpmgeokicpjaaGreatDoorStD
import Derived.Test.YtpnpmgeokicpjaaGreatDoorQF
import Derived.Test.YtpnpmgeokicpjaaGreatDoorQG
import Derived.Test.YtpnpmgeokicpjaaGreatDoorStQ
import Derived.Test.YtpnpmgeokicpjaaGreatDoorQM
import Derived.Test.YtpnpmgeokicpjaaGreatDoorQI
import Derived.Test.YtpnpmgeokicpjaaGreatDoorPkD
import Derived.Test.YtpnpmgeokicpjaaGreatDoorPkB
import Derived.BigRegion

import Derived.Laws.BitsAllLaws

import Derived.ArgAppend

namespace Go.Proofs.YtpnpmgeokicpjaaGreatDoor

open Go.RowKit

set_option linter.unusedVariables false

set_option linter.unusedSimpArgs false

set_option maxRecDepth 20000

def V3 : VState := { oState with f2 := 3 }

theorem fitsS (x : VState) : Z.Fits zS (pL x) 24 := by
  intro r hr h0
  have c : ∀ r, r < 24 → zS r = 0 ∨ (∃ k : Nat, zS r = (k : Int) ∧ ∀ y : VState, pL y r = k) := by
    intro r hr
    rcases r with _ | _ | _ | _ | _ | _ | _ | _ | _ | _ | _ | _ | _ | _ | _ | _ | _ | _ | _ | _ | _ | _ | _ | _ | r
    all_goals first | exact .inl rfl | exact .inr ⟨_, rfl, fun _ => rfl⟩ | omega
  rcases c r hr with h | ⟨k, h1, h2⟩
  · exact absurd h h0
  · rw [h2 x, h1]

theorem nmsS {w : World} {sa : Nat} (hs : w.heap[sa]? = some (.cells (vs .i64 24 zS) 3)) : Z.Nms .i64 w (some ⟨sa, 0, none⟩) 24 zS := .inr ⟨sa, 0, rfl, some_lt hs, fun j hj => by rw [Nat.zero_add]; exact row_int hs j hj⟩

attribute [local go_sem ↓] lvState_eq svState_eq bdState_eq

end Go.Proofs.YtpnpmgeokicpjaaGreatDoor

namespace Go.Proofs.YtpnpmgeokicpjaaGreatDoor

open Go.RowKit

set_option linter.unusedVariables false

set_option linter.unusedSimpArgs false

set_option maxRecDepth 20000

theorem own_keptB {w w' : World} {B k b : Nat} {t : TypeId} {v : Value} {n : Nat} {xs : List Value} (h : w.ownsRow B t k v n xs) (hk : Kept b w w') (hne : v.ownBlock ≠ some b) : w'.ownsRow B t k v n xs := by
  refine ⟨h.1, ?_⟩
  rcases h.2 with h1 | ⟨g, cap, cur, rfl, h2, h3, h4⟩
  · exact .inl h1
  · exact .inr ⟨g, cap, cur, rfl, h2, (hk.block g (some_lt h3) (fun e => hne (by rw [e]; rfl))).trans h3, h4⟩

theorem own_ne {w : World} {B k b : Nat} {t t' : TypeId} {v : Value} {n : Nat} {xs : List Value} {C : Array Value} (h : w.ownsRow B t k v n xs) (hb : w.heap[b]? = some (.cells C t')) (ht : t ≠ t') : v.ownBlock ≠ some b := by
  rcases h.2 with ⟨rfl, _⟩ | ⟨g, cap, cur, rfl, h2, h3, h4⟩
  · intro e
    cases e
  · intro e
    cases e
    rw [hb] at h3
    cases h3
    exact ht rfl

/-- The place that an integer names among n. -/
theorem place (i : Int) (n : Nat) (hn : 0 < n) : ∃ K : Nat, K < n ∧ (i.tmod n + n).tmod n = (K : Int) ∧ -(n : Int) < i.tmod n ∧ i.tmod n < n := by
  have h1 : -(n : Int) < i.tmod n := by
    have := Int.lt_tmod_of_pos i (show (0 : Int) < n by omega)
    omega
  have h2 : i.tmod n < n := Int.tmod_lt_of_pos i (by omega)
  have h3 : 0 ≤ (i.tmod n + n).tmod n := Int.tmod_nonneg _ (by omega)
  have h4 : (i.tmod n + n).tmod n < n := Int.tmod_lt_of_pos _ (by omega)
  exact ⟨((i.tmod n + n).tmod n).toNat, by omega, by omega, h1, h2⟩

end Go.Proofs.YtpnpmgeokicpjaaGreatDoor

namespace Go.Proofs.YtpnpmgeokicpjaaGreatDoor

open Go.RowKit

set_option linter.unusedVariables false

set_option linter.unusedSimpArgs false

set_option maxRecDepth 20000

/-- The bytes of a state. -/
def mS (x : VState) (j : Nat) : Int := (Z.layC zS (pF x) (pL x) 24).getD j 0

theorem mS_len (x : VState) : (Z.layC zS (pF x) (pL x) 24).length = tL x := Z.layC_len zS (pF x) (pL x) 24 (fitsS x)

theorem mS_bl (x : VState) : Z.iv (Z.layC zS (pF x) (pL x) 24) = bl (mS x) (tL x) := by
  rw [Z.iv_bl, mS_len]
  rfl

end Go.Proofs.YtpnpmgeokicpjaaGreatDoor

namespace Go.Proofs.YtpnpmgeokicpjaaGreatDoor

open Go.RowKit

set_option linter.unusedVariables false

set_option linter.unusedSimpArgs false

set_option maxRecDepth 20000

structure BF (w : World) (y : Nat) (V : World) (Y : VState) : Prop where
  bel : Below w.heap.size w V
  row : V.heap[y]? = some (.cells (cel (sState Y)) 49)
  cpd : CpdF w.heap.size V Y

theorem own_byF {w : World} {B : Nat} {a : Option Addr} {n c : Nat} {z : Nat → Int} (h : w.ownsRow B 5 1 (.slice a n c) n (bl z n)) : Bys w a n c z := by
  obtain ⟨a', c', e, hb⟩ := own_at h
  cases e
  exact hb

theorem own_rtF {w : World} {B : Nat} {a : Option Addr} {n c : Nat} {z : Nat → Int} (h : w.ownsRow B 24 32 (.slice a n c) n (bl z (32 * n))) : Rts w a n c z := by
  rcases h.2 with ⟨hv, h0⟩ | ⟨g, cap, cur, hv, hB, hg, h1, h2, hs, ht⟩
  · cases hv
    exact .inl ⟨rfl, rfl, rfl⟩
  · cases hv
    refine .inr (.inr ⟨g, 0, rfl, h1, some_lt hg, fun j hj => ?_⟩)
    have := bl_at z (32 * n) j hj
    rw [← ht, List.getElem?_take_of_lt (by omega), Array.getElem?_toList] at this
    rw [Nat.zero_add, row_cell hg, this]

theorem BF.inW {w : World} {y : Nat} {V : World} {Y : VState} (h : BF w y V Y) : InW V Y :=
  ⟨own_rtF h.cpd.o7, own_els h.cpd.o9 (fun i => by rw [celL_len]; rfl), own_els h.cpd.o11 (fun i => by rw [celL_len]; rfl), own_nms h.cpd.o12, own_byF h.cpd.o15, own_byF h.cpd.o16, own_nms h.cpd.o21⟩

theorem CpdF.below {B : Nat} {V V' : World} {Y : VState} (h : CpdF B V Y) (hb : Below V.heap.size V V') : CpdF B V' Y :=
  ⟨ownsRow_below h.o7 hb, ownsRow_below h.o9 hb, ownsRow_below h.o11 hb, ownsRow_below h.o12 hb, ownsRow_below h.o15 hb, ownsRow_below h.o16 hb, ownsRow_below h.o21 hb, h.d15, h.d12⟩

theorem BF.below {w V V' : World} {y : Nat} {Y : VState} (h : BF w y V Y) (hb : Below V.heap.size V V') : BF w y V' Y :=
  ⟨h.bel.trans (hb.mono h.bel.size), (hb.block y (some_lt h.row)).trans h.row, h.cpd.below hb⟩

theorem BF.drew {w V : World} {y : Nat} {Y : VState} (h : BF w y V Y) : BF w y V.drew Y := h.below ((Below.refl _ _).drew)

/-- A cell of the state itself changed. -/
theorem BF.setY {w V : World} {y : Nat} {Y Y' : VState} (h : BF w y V Y) (hy : w.heap.size ≤ y) (i : Nat) (v : Value) (he : (cel (sState Y)).setIfInBounds i v = cel (sState Y')) (e7 : Y'.f7 = Y.f7) (e9 : Y'.f9 = Y.f9) (e11 : Y'.f11 = Y.f11) (e12 : Y'.f12 = Y.f12) (e15 : Y'.f15 = Y.f15) (e16 : Y'.f16 = Y.f16) (e21 : Y'.f21 = Y.f21) : BF w y (V.setCell ⟨y, i, none⟩ v) Y' := by
  have hk : Kept y V (V.setCell ⟨y, i, none⟩ v) := (Kept.refl y V).setCell _ _
  refine ⟨h.bel.trans (hk.below hy h.bel.size), (row_set h.row i v).trans (congrArg (fun c => some (Obj.cells c 49)) he), ⟨?_, ?_, ?_, ?_, ?_, ?_, ?_, ?_, ?_⟩⟩
  · rw [e7]
    exact own_keptB h.cpd.o7 hk (own_ne h.cpd.o7 h.row (by decide))
  · rw [e9]
    exact own_keptB h.cpd.o9 hk (own_ne h.cpd.o9 h.row (by decide))
  · rw [e11]
    exact own_keptB h.cpd.o11 hk (own_ne h.cpd.o11 h.row (by decide))
  · rw [e12]
    exact own_keptB h.cpd.o12 hk (own_ne h.cpd.o12 h.row (by decide))
  · rw [e15]
    exact own_keptB h.cpd.o15 hk (own_ne h.cpd.o15 h.row (by decide))
  · rw [e16]
    exact own_keptB h.cpd.o16 hk (own_ne h.cpd.o16 h.row (by decide))
  · rw [e21]
    exact own_keptB h.cpd.o21 hk (own_ne h.cpd.o21 h.row (by decide))
  · rw [e15, e16]
    exact h.cpd.d15
  · rw [e12, e21]
    exact h.cpd.d12

theorem okF_sim {x X : VState} (h : SimF x X) (hx : OkState x) : OkState X := by
  refine ⟨by rw [h.e0]; exact hx.o0, by rw [h.e1]; exact hx.o1, by rw [h.e2]; exact hx.o2, by rw [h.e3]; exact hx.o3, by rw [h.e4]; exact hx.o4, by rw [h.e5]; exact hx.o5, by rw [h.e6]; exact hx.o6, fun j hj => by rw [h.z7]; exact hx.o7 j (by rw [← h.l7]; exact hj), by rw [h.e8]; exact hx.o8, fun j hj => by rw [h.z9]; exact hx.o9 j (by rw [← h.l9]; exact hj), by rw [h.e10]; exact hx.o10, fun j hj => by rw [h.z11]; exact hx.o11 j (by rw [← h.l11]; exact hj), fun j hj => by rw [h.z12]; exact hx.o12 j (by rw [← h.l12]; exact hj), by rw [h.e13]; exact hx.o13, by rw [h.e14]; exact hx.o14, fun j hj => by rw [h.z15]; exact hx.o15 j (by rw [← h.l15]; exact hj), fun j hj => by rw [h.z16]; exact hx.o16 j (by rw [← h.l16]; exact hj), by rw [h.e18]; exact hx.o18, by rw [h.e19]; exact hx.o19, by rw [h.e20]; exact hx.o20, fun j hj => by rw [h.z21]; exact hx.o21 j (by rw [← h.l21]; exact hj), by rw [h.e22]; exact hx.o22, by rw [h.e23]; exact hx.o23⟩

theorem mS_sim {x X : VState} (h : SimF x X) : qS X = qS x := by
  unfold qS
  rw [h.e0, h.e1, h.e2, h.e3, h.e4, h.e5, h.e6, h.l7, h.z7, h.e8, h.l9, h.z9, h.e10, h.l11, h.z11, h.l12, h.z12, h.e13, h.e14, h.l15, h.z15, h.l16, h.z16, h.e17, h.e18, h.e19, h.e20, h.l21, h.z21, h.e22, h.e23]

theorem fit_sim {x X : VState} (h : SimF x X) : fitB X = fitB x := by
  unfold fitB
  rw [h.l7, h.l9, h.l11, h.l12, h.l15, h.l16, h.l21]

end Go.Proofs.YtpnpmgeokicpjaaGreatDoor

namespace Go.Proofs.YtpnpmgeokicpjaaGreatDoor

open Go.RowKit

set_option linter.unusedVariables false

set_option linter.unusedSimpArgs false

set_option maxRecDepth 20000

theorem fitn {x : VState} (h : fitB x = true) : x.f7.n ≤ 1024 ∧ x.f9.n ≤ 8 ∧ x.f11.n ≤ 65536 ∧ x.f12.n ≤ 65536 ∧ x.f15.n ≤ 65536 ∧ x.f16.n ≤ 65536 ∧ x.f21.n ≤ 65536 := by
  unfold fitB at h
  simp only [Bool.and_eq_true, decide_eq_true_eq] at h
  omega

theorem tL_lt {x : VState} (h : fitB x = true) : tL x < 4294967296 := by
  have := fitn h
  rw [tL_is]
  omega

attribute [local go_sem ↓] lvState_eq svState_eq bd27_eq bs22_eq

end Go.Proofs.YtpnpmgeokicpjaaGreatDoor

namespace Go.Proofs.YtpnpmgeokicpjaaGreatDoor

open Go.RowKit

set_option linter.unusedVariables false

set_option linter.unusedSimpArgs false

set_option maxRecDepth 20000

def lvKy (a : Addr) : Sem Value := loadVar 44 a

theorem lvKy_eq (a : Addr) : loadVar 44 a = lvKy a := rfl

attribute [local go_sem ↓] lvKy_eq svKy_eq sv24_eq lv24_eq

end Go.Proofs.YtpnpmgeokicpjaaGreatDoor

namespace Go.Proofs.YtpnpmgeokicpjaaGreatDoor

open Go.RowKit

set_option linter.unusedVariables false

set_option linter.unusedSimpArgs false

set_option maxRecDepth 100000

/-- A validator that is active from the start. -/
def oV2 : VValidator := ⟨fun _ => 0, fun _ => 0, 32000000000, false, 0, 0, 18446744073709551615, 18446744073709551615⟩

theorem okV2 : OkValidator oV2 := ⟨fun _ _ => (by decide : (0 : Int) ≤ 0 ∧ (0 : Int) < 256), fun _ _ => (by decide : (0 : Int) ≤ 0 ∧ (0 : Int) < 256), by decide, trivial, by decide, by decide, by decide, by decide⟩

theorem bvV_2 (W : World) : (bvV #[(2, .int .u64 32000000000), (6, .int .u64 18446744073709551615), (7, .int .u64 18446744073709551615)]).run Tryz.prog W = .ok (.agg (cel (sValidator oV2))) W := by kernel_rfl

theorem bsV_2 (W : World) : (bsV 1 #[(0, .agg (cel (sValidator oV2)))]).run Tryz.prog W = .ok (.slice (some ⟨W.heap.size, 0, none⟩) 1 1) (W.alloc (.cells (cel (sValidator oV2)) 60)) := by kernel_rfl

/-- The lists of such a state. -/
structure FS where
  a11 : Option Addr
  n11 : Nat
  c11 : Nat
  a12 : Option Addr
  n12 : Nat
  c12 : Nat
  a15 : Option Addr
  n15 : Nat
  c15 : Nat
  a16 : Option Addr
  n16 : Nat
  c16 : Nat
  a21 : Option Addr
  n21 : Nat
  c21 : Nat

def fX (s : FS) : VState := { oState with f11 := ⟨s.a11, s.n11, s.c11, fun _ => oV2⟩, f12 := ⟨s.a12, s.n12, s.c12, fun _ => 32000000000⟩, f15 := ⟨s.a15, s.n15, s.c15, fun _ => 0⟩, f16 := ⟨s.a16, s.n16, s.c16, fun _ => 0⟩, f21 := ⟨s.a21, s.n21, s.c21, fun _ => 0⟩ }

def fs0 : FS := ⟨none, 0, 0, none, 0, 0, none, 0, 0, none, 0, 0, none, 0, 0⟩

theorem okCz : OkState (fX fs0) := by
  have z : (0 : Int) ≤ 0 ∧ (0 : Int) < 256 := by decide
  have zz : (0 : Int) ≤ 0 ∧ (0 : Int) < 18446744073709551616 := by decide
  exact ⟨zz, fun _ _ => z, zz, ⟨fun _ _ => z, fun _ _ => z, zz⟩, ⟨zz, zz, fun _ _ => z, fun _ _ => z, fun _ _ => z⟩, fun _ _ => z, fun _ _ => z, fun _ h => absurd h (Nat.not_lt_zero _), ⟨fun _ _ => z, zz, fun _ _ => z⟩, fun _ h => absurd h (Nat.not_lt_zero _), zz, fun _ h => absurd h (Nat.not_lt_zero _), fun _ h => absurd h (Nat.not_lt_zero _), fun _ _ => z, fun _ _ => zz, fun _ h => absurd h (Nat.not_lt_zero _), fun _ h => absurd h (Nat.not_lt_zero _), ⟨zz, fun _ _ => z⟩, ⟨zz, fun _ _ => z⟩, ⟨zz, fun _ _ => z⟩, fun _ h => absurd h (Nat.not_lt_zero _), ⟨fun _ _ => z, fun _ _ => z⟩, ⟨fun _ _ => z, fun _ _ => z⟩⟩

attribute [local go_sem ↓] lvState_eq svState_eq bdState_eq bvV_eq bsV_eq

end Go.Proofs.YtpnpmgeokicpjaaGreatDoor

namespace Go.Proofs.YtpnpmgeokicpjaaGreatDoor

open Go.RowKit

set_option linter.unusedVariables false

set_option linter.unusedSimpArgs false

set_option maxRecDepth 100000

/-- Where all have the greatest balance each try takes its candidate. -/
theorem drL_rich {z : Nat → VValidator} {L : List Int} {s : Nat → Int} (hL : L ≠ []) (h : ∀ v ∈ L, (z v.toNat).f2 = 32000000000) : ∀ i, drL z L s (i + 1) = drL z L s i ++ [cdV L s i] := fun i => by
  have hb := lotV_bd s i
  have hc : cdV L s i ∈ L := mbr_mem L s (Nat.mod_lt _ (List.length_pos_iff.2 hL))
  have ht : tkB z L s i = true := by
    unfold tkB
    rw [h _ hc, decide_eq_true_eq]
    omega
  show (if tkB z L s i = true then drL z L s i ++ [cdV L s i] else drL z L s i) = _
  rw [if_pos ht]

theorem drL_full {z : Nat → VValidator} {L : List Int} {s : Nat → Int} (hL : L ≠ []) (h : ∀ v ∈ L, (z v.toNat).f2 = 32000000000) : ∀ i, (drL z L s i).length = i
  | 0 => rfl
  | i + 1 => by rw [drL_rich hL h i, List.length_append, drL_full hL h i]; rfl

theorem dw_rich {z : Nat → VValidator} {L : List Int} {s : Nat → Int} {want : Nat} (hL : L ≠ []) (h : ∀ v ∈ L, (z v.toNat).f2 = 32000000000) (hw : want ≤ 256) : dwE z L s want = 0 ∧ dwL z L s want = drL z L s want :=
  have k := dw_hit (z := z) (s := s) hL hw (drL_full hL h want)
  ⟨k.2, k.1⟩

/-- What the program's functions have to answer. -/
def PProp : Prop := ∀ (x : VState) (w : World), OkState x → Lk w x → Sh w → Calls Tryz.prog 40 #[.agg (cel (sState x))] w fun e' w' => e' = .returned (.tuple #[.int .u64 (prV x), .int .i64 (prE x)]) ∧ Below w.heap.size w w'

/-- A state with one validator, that is active. -/
def X2 (g1 g2 g3 g4 g5 : Nat) : VState := { oState with f11 := ⟨some ⟨g1, 0, none⟩, 1, 1, fun _ => oV2⟩, f12 := ⟨some ⟨g2, 0, none⟩, 1, 1, fun _ => 0⟩, f15 := ⟨some ⟨g3, 0, none⟩, 1, 1, fun _ => 0⟩, f16 := ⟨some ⟨g4, 0, none⟩, 1, 1, fun _ => 0⟩, f21 := ⟨some ⟨g5, 0, none⟩, 1, 1, fun _ => 0⟩ }

theorem bd_x2 (W : World) (g1 g2 g3 g4 g5 : Nat) : (bdState #[(11, .slice (some ⟨g1, 0, none⟩) 1 1), (12, .slice (some ⟨g2, 0, none⟩) 1 1), (15, .slice (some ⟨g3, 0, none⟩) 1 1), (16, .slice (some ⟨g4, 0, none⟩) 1 1), (21, .slice (some ⟨g5, 0, none⟩) 1 1)]).run Tryz.prog W = .ok (.agg (cel (sState (X2 g1 g2 g3 g4 g5)))) W := by kernel_rfl

theorem range_x2 {w : World} {g : Nat} {t : TypeId} (h : w.heap[g]? = some (.cells (cel (sValidator oV2)) t)) : w.rangeAt g 0 (celL (sValidator oV2)) := by
  intro j v hj
  rw [Nat.zero_add, row_cell h, ← hj]
  exact List.getElem?_toArray ..

theorem ok_x2 (g1 g2 g3 g4 g5 : Nat) : OkState (X2 g1 g2 g3 g4 g5) := by
  have z : (0 : Int) ≤ 0 ∧ (0 : Int) < 256 := by decide
  have zz : (0 : Int) ≤ 0 ∧ (0 : Int) < 18446744073709551616 := by decide
  have h := okCz
  exact ⟨h.o0, h.o1, h.o2, h.o3, h.o4, h.o5, h.o6, h.o7, h.o8, h.o9, h.o10, fun _ _ => okV2, fun _ _ => zz, h.o13, h.o14, fun _ _ => z, fun _ _ => z, h.o18, h.o19, h.o20, fun _ _ => zz, h.o22, h.o23⟩

theorem ok_z15 : OkState oState := by
  have h := okCz
  exact ⟨h.o0, h.o1, h.o2, h.o3, h.o4, h.o5, h.o6, h.o7, h.o8, h.o9, h.o10, fun _ hj => absurd hj (Nat.not_lt_zero _), fun _ hj => absurd hj (Nat.not_lt_zero _), h.o13, h.o14, fun _ hj => absurd hj (Nat.not_lt_zero _), fun _ hj => absurd hj (Nat.not_lt_zero _), h.o18, h.o19, h.o20, fun _ hj => absurd hj (Nat.not_lt_zero _), h.o22, h.o23⟩

theorem setRow_other {w : World} {b k : Nat} {C : Array Value} (h : k ≠ b) : (w.setRow b C).heap[k]? = w.heap[k]? := by
  simp only [World.setRow, Array.getElem?_modify]
  rw [if_neg (fun e => h e.symm)]

attribute [local go_sem ↓] lvState_eq svState_eq bdState_eq lvValidator_eq svValidator_eq ixValidator_eq bvV_eq bsV_eq

end Go.Proofs.YtpnpmgeokicpjaaGreatDoor

namespace Go.Proofs.YtpnpmgeokicpjaaGreatDoor

open Go.RowKit

set_option linter.unusedVariables false

set_option linter.unusedSimpArgs false

set_option maxRecDepth 20000

/-- A cell of an own row changed. -/
theorem ownSetC {w : World} {B k g n cap : Nat} {t : TypeId} {xs : List Value} (h : w.ownsRow B t k (.slice (some ⟨g, 0, none⟩) n cap) n xs) (i : Nat) (hi : i < n * k) (v : Value) : (w.setCell ⟨g, i, none⟩ v).ownsRow B t k (.slice (some ⟨g, 0, none⟩) n cap) n (xs.set i v) := by
  refine ⟨by rw [List.length_set]; exact h.1, ?_⟩
  rcases h.2 with ⟨e, _⟩ | ⟨g', cap', cur, e, h1, h2, h3, h4, h5, h6⟩
  · cases e
  · cases e
    refine .inr ⟨g, cap, cur.setIfInBounds i v, rfl, h1, row_set h2 i v, h3, h4, by rw [Array.size_setIfInBounds]; exact h5, ?_⟩
    rw [← h6]
    apply List.ext_getElem?
    intro j
    rw [List.getElem?_take, Array.getElem?_toList, Array.getElem?_setIfInBounds]
    have hs : i < cur.size := by
      rw [h5]
      exact Nat.lt_of_lt_of_le hi (Nat.mul_le_mul_right _ h3)
    by_cases hj : j < n * k
    · rw [if_pos hj, List.getElem?_set]
      by_cases hji : i = j
      · subst hji
        rw [if_pos rfl, if_pos rfl, if_pos hs, if_pos (by rw [List.length_take, Array.length_toList]; omega)]
      · rw [if_neg hji, if_neg hji, List.getElem?_take, if_pos hj, Array.getElem?_toList]
    · rw [if_neg hj, List.getElem?_eq_none (by rw [List.length_set, List.length_take]; omega)]

theorem flat_set {e : Nat → List Value} {k : Nat} (h : ∀ i, (e i).length = k) (n i p : Nat) (hi : i < n) (hp : p < k) (v : Value) : (flat e n).set (i * k + p) v = flat (fun j => if j = i then (e i).set p v else e j) n := by
  have h' : ∀ j, ((fun j => if j = i then (e i).set p v else e j) j).length = k := fun j => by
    show (if j = i then (e i).set p v else e j).length = k
    by_cases hj : j = i
    · rw [if_pos hj, List.length_set]; exact h i
    · rw [if_neg hj]; exact h j
  apply List.ext_getElem?
  intro q
  rw [List.getElem?_set]
  by_cases hq : q < n * k
  · have hk : 0 < k := by omega
    have hd : q / k < n := Nat.div_lt_of_lt_mul (by rw [Nat.mul_comm]; exact hq)
    have hm : q % k < k := Nat.mod_lt _ hk
    have e1 : q / k * k + q % k = q := by rw [Nat.mul_comm]; exact Nat.div_add_mod q k
    have f1 := flat_at h (q / k) (q % k) hm n hd
    have f2 := flat_at h' (q / k) (q % k) hm n hd
    rw [e1] at f1 f2
    rw [f2]
    by_cases hqi : i * k + p = q
    · have hq1 : q / k = i := by
        rw [← hqi, Nat.mul_comm i k, Nat.mul_add_div hk, Nat.div_eq_of_lt hp, Nat.add_zero]
      have hq2 : q % k = p := by
        rw [← hqi, Nat.mul_comm i k, Nat.mul_add_mod, Nat.mod_eq_of_lt hp]
      rw [if_pos hqi, hq1, hq2]
      show _ = (if i = i then (e i).set p v else e i)[p]?
      rw [if_pos rfl, List.getElem?_set_self (by rw [h i]; exact hp), if_pos (by rw [flat_len h n, hqi]; exact hq)]
    · rw [if_neg hqi, f1]
      show _ = (if q / k = i then (e i).set p v else e (q / k))[q % k]?
      by_cases hq1 : q / k = i
      · rw [if_pos hq1, hq1, List.getElem?_set_ne (fun hh => hqi (by rw [hh, ← hq1]; exact e1))]
      · rw [if_neg hq1]
  · have l2 : (flat (fun j => if j = i then (e i).set p v else e j) n)[q]? = none := List.getElem?_eq_none (by rw [flat_len h' n]; omega)
    have l1 : (flat e n)[q]? = none := List.getElem?_eq_none (by rw [flat_len h n]; omega)
    rw [l2, l1]
    by_cases hqi : i * k + p = q
    · exfalso
      have : i * k + k ≤ n * k := by
        rw [← Nat.succ_mul]
        exact Nat.mul_le_mul_right _ hi
      omega
    · rw [if_neg hqi]

theorem nl_set (z : Nat → Int) (n i : Nat) (v : Int) : (nl z n).set i (.int .u64 v) = nl (fun j => if j = i then v else z j) n := by
  apply List.ext_getElem?
  intro j
  unfold nl
  rw [List.getElem?_set, List.getElem?_map, List.getElem?_map, List.length_map, List.length_range]
  by_cases hj : j < n
  · rw [List.getElem?_range hj]
    by_cases hi : i = j
    · subst hi
      rw [if_pos rfl, if_pos hj, Option.map_some]
      exact congrArg (fun x => some (Value.int .u64 x)) (if_pos rfl).symm
    · rw [if_neg hi, Option.map_some, Option.map_some]
      exact congrArg (fun x => some (Value.int .u64 x)) (if_neg (show ¬ j = i from fun e => hi e.symm)).symm
  · rw [List.getElem?_eq_none (by rw [List.length_range]; omega)]
    by_cases hi : i = j
    · subst hi
      rw [if_pos rfl, if_neg hj]
      rfl
    · rw [if_neg hi]
      rfl

end Go.Proofs.YtpnpmgeokicpjaaGreatDoor

namespace Go.Proofs.YtpnpmgeokicpjaaGreatDoor

open Go.RowKit

set_option linter.unusedVariables false

set_option linter.unusedSimpArgs false

set_option maxRecDepth 20000

theorem len1 (x : VState) : slen ((sState x).take 1) = 1 := by kernel_rfl

/-- Who is drawn hangs on the balances alone. -/
theorem drL_congr {z z' : Nat → VValidator} (h : ∀ j, (z j).f2 = (z' j).f2) (L : List Int) (s : Nat → Int) : ∀ i, drL z L s i = drL z' L s i
  | 0 => rfl
  | i + 1 => by
    have e : tkB z L s i = tkB z' L s i := by unfold tkB; rw [h]
    show (if tkB z L s i = true then drL z L s i ++ _ else drL z L s i) = (if tkB z' L s i = true then drL z' L s i ++ _ else drL z' L s i)
    rw [e, drL_congr h L s i]

theorem dw_congr {z z' : Nat → VValidator} (h : ∀ j, (z j).f2 = (z' j).f2) (L : List Int) (s : Nat → Int) (want : Nat) : dwL z L s want = dwL z' L s want ∧ dwE z L s want = dwE z' L s want := by
  unfold dwL dwE dwO
  rw [drL_congr h L s 256]
  exact ⟨rfl, rfl⟩

end Go.Proofs.YtpnpmgeokicpjaaGreatDoor
