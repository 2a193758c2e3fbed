/-
  The fixed answers that every statement of layer 10 asks first are right.
  Less in a right state leaves it right.
  StateBounds: less in a right state leaves it right; one balance more does not.
  A copy of a state, whole.
  The bytes of states: in range, and which differ.
  What stands while a copy of a state is changed.
  StateApart, walked.
  Keys in a row, and what the reference's Sum answers.
  What the reference's Next answers.
  Committees compared.
  Lists of a copied state changed cell by cell.
  What changes of a copied state do; who proposes in states that differ where it does not matter.
  Keys copied by append; PickSums.
-/
import Derived.Test.YtficlakgameglaaDoorStD
import Derived.Test.YtficlakgameglaaDoorQD
import Derived.Test.YtficlakgameglaaDoorQJ
import Derived.Test.YtficlakgameglaaDoorQI
import Derived.Test.YtficlakgameglaaDoorQF
import Derived.Test.YtficlakgameglaaDoorPkB
import Derived.Test.YtficlakgameglaaDoorQO
import Derived.BigRegion

import Derived.Laws.BitsAllLaws

import Derived.DeepKeys

namespace Go.Proofs.YtficlakgameglaaDoor

open Go.RowKit

set_option linter.unusedVariables false

set_option linter.unusedSimpArgs false

set_option maxRecDepth 20000

def V3 : VState := { oState with f2 := 3 }

theorem fitsS (x : VState) : Z.Fits zS (pL x) 24 := by
  intro r hr h0
  have c : ∀ r, r < 24 → zS r = 0 ∨ (∃ k : Nat, zS r = (k : Int) ∧ ∀ y : VState, pL y r = k) := by
    intro r hr
    rcases r with _ | _ | _ | _ | _ | _ | _ | _ | _ | _ | _ | _ | _ | _ | _ | _ | _ | _ | _ | _ | _ | _ | _ | _ | r
    all_goals first | exact .inl rfl | exact .inr ⟨_, rfl, fun _ => rfl⟩ | omega
  rcases c r hr with h | ⟨k, h1, h2⟩
  · exact absurd h h0
  · rw [h2 x, h1]

theorem nmsS {w : World} {sa : Nat} (hs : w.heap[sa]? = some (.cells (vs .i64 24 zS) 3)) : Z.Nms .i64 w (some ⟨sa, 0, none⟩) 24 zS := .inr ⟨sa, 0, rfl, some_lt hs, fun j hj => by rw [Nat.zero_add]; exact row_int hs j hj⟩

attribute [local go_sem ↓] lvState_eq svState_eq bdState_eq

end Go.Proofs.YtficlakgameglaaDoor

namespace Go.Proofs.YtficlakgameglaaDoor

open Go.RowKit

set_option linter.unusedVariables false

set_option linter.unusedSimpArgs false

set_option maxRecDepth 20000

theorem sumZ_le {z z' : Nat → Int} {n : Nat} (h : ∀ j, j < n → z' j ≤ z j) : ∀ k, k ≤ n → sumZ z' k ≤ sumZ z k
  | 0, _ => Int.le_refl _
  | k + 1, hk => Int.add_le_add (sumZ_le h k (by omega)) (h k (by omega))

theorem and8 {a b c d e f g h : Bool} (H : (a && (b && (c && (d && (e && (f && (g && h))))))) = true) : a = true ∧ b = true ∧ c = true ∧ d = true ∧ e = true ∧ f = true ∧ g = true ∧ h = true := by
  simpa using H

theorem scoB_out {z : Nat → Int} {n : Nat} (h : scoB z n = true) (i : Nat) (hi : i < n) : z i ≤ 1099511627776 := by
  unfold scoB at h
  rw [List.all_eq_true] at h
  exact of_decide_eq_true (h i (List.mem_range.2 hi))

/-- A state with less. -/
def lessV (X : VState) (z12 z21 s14 : Nat → Int) (sl : Int) : VState := { X with f12 := ⟨X.f12.a, X.f12.n, X.f12.c, z12⟩, f21 := ⟨X.f21.a, X.f21.n, X.f21.c, z21⟩, f14 := s14, f4 := { X.f4 with f0 := sl } }

theorem right_less {X : VState} {z12 z21 s14 : Nat → Int} {sl : Int} (h : rightB X = true) (h12 : ∀ j, j < X.f12.n → z12 j ≤ X.f12.z j) (h21 : ∀ j, j < X.f21.n → z21 j ≤ X.f21.z j) (h14 : ∀ j, j < 8 → s14 j ≤ X.f14 j) (hs : sl ≤ X.f4.f0) : rightB (lessV X z12 z21 s14 sl) = true := by
  obtain ⟨b1, b2, b3, b4, b5, b6, b7, b8⟩ := and8 h
  have c3 : timB (lessV X z12 z21 s14 sl) = true := by
    unfold timB at b3 ⊢
    simp only [Bool.and_eq_true, decide_eq_true_eq] at b3 ⊢
    refine ⟨⟨⟨⟨b3.1.1.1.1, Int.le_trans hs b3.1.1.1.2⟩, b3.1.1.2⟩, b3.1.2⟩, b3.2⟩
  have c6 : scoB z21 X.f21.n = true := scoB_true fun i hi => Int.le_trans (h21 i hi) (scoB_out b6 i hi)
  have c7 : togB z12 X.f12.n 144115188075855872 = true := by
    unfold togB at b7 ⊢
    exact decide_eq_true (Int.le_trans (sumZ_le h12 _ (Nat.le_refl _)) (of_decide_eq_true b7))
  have c8 : togB s14 8 144115188075855872 = true := by
    unfold togB at b8 ⊢
    exact decide_eq_true (Int.le_trans (sumZ_le h14 _ (Nat.le_refl _)) (of_decide_eq_true b8))
  show (fitB X && (lensB X && (timB (lessV X z12 z21 s14 sl) && (decide (X.f10 < 1099511627776) && (valsB X.f11.z X.f11.n && (scoB z21 X.f21.n && (togB z12 X.f12.n 144115188075855872 && togB s14 8 144115188075855872))))))) = true
  rw [b1, b2, c3, b4, b5, c6, c7, c8]
  rfl

/-- Numbers that fit far below the bound. -/
theorem small_out {X : VState} (hx : OkR X) (h : rightB X = true) : (∀ j, j < X.f12.n → X.f12.z j ≤ 144115188075855872) ∧ (∀ j, j < X.f21.n → X.f21.z j ≤ 1099511627776) ∧ (∀ j, j < 8 → X.f14 j ≤ 144115188075855872) := by
  obtain ⟨_, _, _, _, _, b6, b7, b8⟩ := and8 h
  have key : ∀ (z : Nat → Int) (n : Nat), (∀ j, j < n → 0 ≤ z j) → sumZ z n ≤ 144115188075855872 → ∀ j, j < n → z j ≤ 144115188075855872 := fun z n h0 hs j hj => by
    have h1 := sumZ_mono h0 (j + 1) (by omega) (n - (j + 1)) (by omega)
    rw [show j + 1 + (n - (j + 1)) = n by omega] at h1
    have h2 : sumZ z (j + 1) = sumZ z j + z j := rfl
    have h3 := sumZ_pos h0 j (by omega)
    omega
  exact ⟨key _ _ (fun j hj => (hx.o12 j hj).1) (of_decide_eq_true b7), scoB_out b6, key _ _ (fun j hj => (hx.o14 j hj).1) (of_decide_eq_true b8)⟩

end Go.Proofs.YtficlakgameglaaDoor

namespace Go.Proofs.YtficlakgameglaaDoor

open Go.RowKit

set_option linter.unusedVariables false

set_option linter.unusedSimpArgs false

set_option maxRecDepth 20000

theorem own_keptB {w w' : World} {B k b : Nat} {t : TypeId} {v : Value} {n : Nat} {xs : List Value} (h : w.ownsRow B t k v n xs) (hk : Kept b w w') (hne : v.ownBlock ≠ some b) : w'.ownsRow B t k v n xs := by
  refine ⟨h.1, ?_⟩
  rcases h.2 with h1 | ⟨g, cap, cur, rfl, h2, h3, h4⟩
  · exact .inl h1
  · exact .inr ⟨g, cap, cur, rfl, h2, (hk.block g (some_lt h3) (fun e => hne (by rw [e]; rfl))).trans h3, h4⟩

theorem own_ne {w : World} {B k b : Nat} {t t' : TypeId} {v : Value} {n : Nat} {xs : List Value} {C : Array Value} (h : w.ownsRow B t k v n xs) (hb : w.heap[b]? = some (.cells C t')) (ht : t ≠ t') : v.ownBlock ≠ some b := by
  rcases h.2 with ⟨rfl, _⟩ | ⟨g, cap, cur, rfl, h2, h3, h4⟩
  · intro e
    cases e
  · intro e
    cases e
    rw [hb] at h3
    cases h3
    exact ht rfl

/-- The place that an integer names among n. -/
theorem place (i : Int) (n : Nat) (hn : 0 < n) : ∃ K : Nat, K < n ∧ (i.tmod n + n).tmod n = (K : Int) ∧ -(n : Int) < i.tmod n ∧ i.tmod n < n := by
  have h1 : -(n : Int) < i.tmod n := by
    have := Int.lt_tmod_of_pos i (show (0 : Int) < n by omega)
    omega
  have h2 : i.tmod n < n := Int.tmod_lt_of_pos i (by omega)
  have h3 : 0 ≤ (i.tmod n + n).tmod n := Int.tmod_nonneg _ (by omega)
  have h4 : (i.tmod n + n).tmod n < n := Int.tmod_lt_of_pos _ (by omega)
  exact ⟨((i.tmod n + n).tmod n).toNat, by omega, by omega, h1, h2⟩

end Go.Proofs.YtficlakgameglaaDoor

namespace Go.Proofs.YtficlakgameglaaDoor

open Go.RowKit

set_option linter.unusedVariables false

set_option linter.unusedSimpArgs false

set_option maxRecDepth 20000

/-- Alike but for where the lists lie, all fields. -/
structure SimF (x X : VState) : Prop where
  e0 : X.f0 = x.f0
  e1 : X.f1 = x.f1
  e2 : X.f2 = x.f2
  e3 : X.f3 = x.f3
  e4 : X.f4 = x.f4
  e5 : X.f5 = x.f5
  e6 : X.f6 = x.f6
  l7 : X.f7.n = x.f7.n
  z7 : X.f7.z = x.f7.z
  e8 : X.f8 = x.f8
  l9 : X.f9.n = x.f9.n
  z9 : X.f9.z = x.f9.z
  e10 : X.f10 = x.f10
  l11 : X.f11.n = x.f11.n
  z11 : X.f11.z = x.f11.z
  l12 : X.f12.n = x.f12.n
  z12 : X.f12.z = x.f12.z
  e13 : X.f13 = x.f13
  e14 : X.f14 = x.f14
  l15 : X.f15.n = x.f15.n
  z15 : X.f15.z = x.f15.z
  l16 : X.f16.n = x.f16.n
  z16 : X.f16.z = x.f16.z
  e17 : X.f17 = x.f17
  e18 : X.f18 = x.f18
  e19 : X.f19 = x.f19
  e20 : X.f20 = x.f20
  l21 : X.f21.n = x.f21.n
  z21 : X.f21.z = x.f21.z
  e22 : X.f22 = x.f22
  e23 : X.f23 = x.f23

/-- The copied lists. -/
structure CpdF (B : Nat) (w : World) (X : VState) : Prop where
  o7 : w.ownsRow B 24 32 (.slice X.f7.a X.f7.n X.f7.c) X.f7.n (bl X.f7.z (32 * X.f7.n))
  o9 : w.ownsRow B 34 65 (.slice X.f9.a X.f9.n X.f9.c) X.f9.n (flat (fun i => celL (sEth1 (X.f9.z i))) X.f9.n)
  o11 : w.ownsRow B 82 86 (.slice X.f11.a X.f11.n X.f11.c) X.f11.n (flat (fun i => celL (sValidator (X.f11.z i))) X.f11.n)
  o12 : w.ownsRow B 22 1 (.slice X.f12.a X.f12.n X.f12.c) X.f12.n (nl X.f12.z X.f12.n)
  o15 : w.ownsRow B 5 1 (.slice X.f15.a X.f15.n X.f15.c) X.f15.n (bl X.f15.z X.f15.n)
  o16 : w.ownsRow B 5 1 (.slice X.f16.a X.f16.n X.f16.c) X.f16.n (bl X.f16.z X.f16.n)
  o21 : w.ownsRow B 22 1 (.slice X.f21.a X.f21.n X.f21.c) X.f21.n (nl X.f21.z X.f21.n)
  d15 : ∀ ad ad', X.f15.a = some ad → X.f16.a = some ad' → ad.block ≠ ad'.block
  d12 : ∀ ad ad', X.f12.a = some ad → X.f21.a = some ad' → ad.block ≠ ad'.block

attribute [local go_sem ↓] lvState_eq svState_eq

end Go.Proofs.YtficlakgameglaaDoor

namespace Go.Proofs.YtficlakgameglaaDoor

open Go.RowKit

set_option linter.unusedVariables false

set_option linter.unusedSimpArgs false

set_option maxRecDepth 20000

/-- The bytes of a state. -/
def mS (x : VState) (j : Nat) : Int := (Z.layC zS (pF x) (pL x) 24).getD j 0

theorem mS_len (x : VState) : (Z.layC zS (pF x) (pL x) 24).length = tL x := Z.layC_len zS (pF x) (pL x) 24 (fitsS x)

theorem mS_bl (x : VState) : Z.iv (Z.layC zS (pF x) (pL x) 24) = bl (mS x) (tL x) := by
  rw [Z.iv_bl, mS_len]
  rfl

end Go.Proofs.YtficlakgameglaaDoor

namespace Go.Proofs.YtficlakgameglaaDoor

open Go.RowKit

set_option linter.unusedVariables false

set_option linter.unusedSimpArgs false

set_option maxRecDepth 20000

structure BF (w : World) (y : Nat) (V : World) (Y : VState) : Prop where
  bel : Below w.heap.size w V
  row : V.heap[y]? = some (.cells (cel (sState Y)) 49)
  cpd : CpdF w.heap.size V Y

theorem own_byF {w : World} {B : Nat} {a : Option Addr} {n c : Nat} {z : Nat → Int} (h : w.ownsRow B 5 1 (.slice a n c) n (bl z n)) : Bys w a n c z := by
  obtain ⟨a', c', e, hb⟩ := own_at h
  cases e
  exact hb

theorem own_rtF {w : World} {B : Nat} {a : Option Addr} {n c : Nat} {z : Nat → Int} (h : w.ownsRow B 24 32 (.slice a n c) n (bl z (32 * n))) : Rts w a n c z := by
  rcases h.2 with ⟨hv, h0⟩ | ⟨g, cap, cur, hv, hB, hg, h1, h2, hs, ht⟩
  · cases hv
    exact .inl ⟨rfl, rfl, rfl⟩
  · cases hv
    refine .inr (.inr ⟨g, 0, rfl, h1, some_lt hg, fun j hj => ?_⟩)
    have := bl_at z (32 * n) j hj
    rw [← ht, List.getElem?_take_of_lt (by omega), Array.getElem?_toList] at this
    rw [Nat.zero_add, row_cell hg, this]

theorem BF.inW {w : World} {y : Nat} {V : World} {Y : VState} (h : BF w y V Y) : InW V Y :=
  ⟨own_rtF h.cpd.o7, own_els h.cpd.o9 (fun i => by rw [celL_len]; rfl), own_els h.cpd.o11 (fun i => by rw [celL_len]; rfl), own_nms h.cpd.o12, own_byF h.cpd.o15, own_byF h.cpd.o16, own_nms h.cpd.o21⟩

theorem CpdF.below {B : Nat} {V V' : World} {Y : VState} (h : CpdF B V Y) (hb : Below V.heap.size V V') : CpdF B V' Y :=
  ⟨ownsRow_below h.o7 hb, ownsRow_below h.o9 hb, ownsRow_below h.o11 hb, ownsRow_below h.o12 hb, ownsRow_below h.o15 hb, ownsRow_below h.o16 hb, ownsRow_below h.o21 hb, h.d15, h.d12⟩

theorem BF.below {w V V' : World} {y : Nat} {Y : VState} (h : BF w y V Y) (hb : Below V.heap.size V V') : BF w y V' Y :=
  ⟨h.bel.trans (hb.mono h.bel.size), (hb.block y (some_lt h.row)).trans h.row, h.cpd.below hb⟩

theorem BF.drew {w V : World} {y : Nat} {Y : VState} (h : BF w y V Y) : BF w y V.drew Y := h.below ((Below.refl _ _).drew)

theorem okF_sim {x X : VState} (h : SimF x X) (hx : OkState x) : OkState X := by
  refine ⟨by rw [h.e0]; exact hx.o0, by rw [h.e1]; exact hx.o1, by rw [h.e2]; exact hx.o2, by rw [h.e3]; exact hx.o3, by rw [h.e4]; exact hx.o4, by rw [h.e5]; exact hx.o5, by rw [h.e6]; exact hx.o6, fun j hj => by rw [h.z7]; exact hx.o7 j (by rw [← h.l7]; exact hj), by rw [h.e8]; exact hx.o8, fun j hj => by rw [h.z9]; exact hx.o9 j (by rw [← h.l9]; exact hj), by rw [h.e10]; exact hx.o10, fun j hj => by rw [h.z11]; exact hx.o11 j (by rw [← h.l11]; exact hj), fun j hj => by rw [h.z12]; exact hx.o12 j (by rw [← h.l12]; exact hj), by rw [h.e13]; exact hx.o13, by rw [h.e14]; exact hx.o14, fun j hj => by rw [h.z15]; exact hx.o15 j (by rw [← h.l15]; exact hj), fun j hj => by rw [h.z16]; exact hx.o16 j (by rw [← h.l16]; exact hj), by rw [h.e18]; exact hx.o18, by rw [h.e19]; exact hx.o19, by rw [h.e20]; exact hx.o20, fun j hj => by rw [h.z21]; exact hx.o21 j (by rw [← h.l21]; exact hj), by rw [h.e22]; exact hx.o22, by rw [h.e23]; exact hx.o23⟩

theorem mS_sim {x X : VState} (h : SimF x X) : qS X = qS x := by
  unfold qS
  rw [h.e0, h.e1, h.e2, h.e3, h.e4, h.e5, h.e6, h.l7, h.z7, h.e8, h.l9, h.z9, h.e10, h.l11, h.z11, h.l12, h.z12, h.e13, h.e14, h.l15, h.z15, h.l16, h.z16, h.e17, h.e18, h.e19, h.e20, h.l21, h.z21, h.e22, h.e23]

theorem fit_sim {x X : VState} (h : SimF x X) : fitB X = fitB x := by
  unfold fitB
  rw [h.l7, h.l9, h.l11, h.l12, h.l15, h.l16, h.l21]

end Go.Proofs.YtficlakgameglaaDoor

namespace Go.Proofs.YtficlakgameglaaDoor

open Go.RowKit

set_option linter.unusedVariables false

set_option linter.unusedSimpArgs false

set_option maxRecDepth 20000

theorem fitn {x : VState} (h : fitB x = true) : x.f7.n ≤ 1024 ∧ x.f9.n ≤ 8 ∧ x.f11.n ≤ 65536 ∧ x.f12.n ≤ 65536 ∧ x.f15.n ≤ 65536 ∧ x.f16.n ≤ 65536 ∧ x.f21.n ≤ 65536 := by
  unfold fitB at h
  simp only [Bool.and_eq_true, decide_eq_true_eq] at h
  omega

theorem tL_lt {x : VState} (h : fitB x = true) : tL x < 4294967296 := by
  have := fitn h
  rw [tL_is]
  omega

attribute [local go_sem ↓] lvState_eq svState_eq bd27_eq bs22_eq

end Go.Proofs.YtficlakgameglaaDoor

namespace Go.Proofs.YtficlakgameglaaDoor

open Go.RowKit

set_option linter.unusedVariables false

set_option linter.unusedSimpArgs false

set_option maxRecDepth 20000

/-- The keys of a slice, their bytes one behind the other. -/
def Kys (w : World) (a : Option Addr) (len cap : Nat) (f : Nat → Int) : Prop :=
  (a = none ∧ len = 0 ∧ cap = 0) ∨ (∃ x, a = some x ∧ len = 0) ∨ ∃ b off, a = some ⟨b, off, none⟩ ∧ len ≤ cap ∧ b < w.heap.size ∧ ∀ j, j < 48 * len → w.cell? ⟨b, off + j, none⟩ = some (.int .u8 (f j))

theorem Kys.below {w w' : World} {a : Option Addr} {len cap : Nat} {f : Nat → Int} (h : Kys w a len cap f) (hb : Below w.heap.size w w') : Kys w' a len cap f := by
  rcases h with h | h | ⟨b, off, h1, h2, h3, h4⟩
  · exact .inl h
  · exact .inr (.inl h)
  · exact .inr (.inr ⟨b, off, h1, h2, Nat.lt_of_lt_of_le h3 hb.size, fun j hj => (below_cell hb h3).trans (h4 j hj)⟩)

/-- The place of a key in a slice. -/
def ixKy (x i : Value) : Sem Value := Instr.indexAt 84 x i

theorem ixKy_eq (x i : Value) : Instr.indexAt 84 x i = ixKy x i := rfl

theorem sizeKy (w : World) : (sizeOf 44).run Tryd.prog w = .ok 48 w := by
  have hi : (Tryd.prog.info? 44).map (·.size) = some 48 := by kernel_rfl
  cases hq : Tryd.prog.info? 44 with
  | none => simp [hq] at hi
  | some i => simp [hq] at hi; simp [sizeOf, typeInfo, hq, hi]

theorem ixKy_run (w : World) (b off len cap i : Nat) (h : i < len) : (ixKy (.slice (some ⟨b, off, none⟩) len cap) (.int .i64 i)).run Tryd.prog w = .ok (.pointer (some ⟨b, off + 48 * i, none⟩)) w := by
  unfold ixKy Instr.indexAt
  have h1 : (0 : Int) ≤ (i : Int) ∧ (i : Int) < (len : Int) := by omega
  simp only [asIntOf, Sem.run_bind, Sem.run_pure, Result.andThen_ok, run_underlying Tryd.underlying84, if_pos h1, sizeKy, Addr.add_mid, Int.toNat_natCast]
  rw [Nat.mul_comm]

def lvKy (a : Addr) : Sem Value := loadVar 44 a

theorem lvKy_eq (a : Addr) : loadVar 44 a = lvKy a := rfl

theorem lvKy_run {w : World} {b : Nat} {c : Nat → Int} {t : TypeId} (h : w.heap[b]? = some (.cells (vs .u8 48 c) t)) : (lvKy ⟨b, 0, none⟩).run Tryd.prog w = .ok (.agg (vs .u8 48 c)) w :=
  loadAt_var (load_row h 44 _ Tryd.underlying44 rfl (by rw [vs_size]; kernel_rfl))

attribute [local go_sem ↓] ixKy_eq lvKy_eq svKy_eq sv24_eq lv24_eq

end Go.Proofs.YtficlakgameglaaDoor

namespace Go.Proofs.YtficlakgameglaaDoor

open Go.RowKit

set_option linter.unusedVariables false

set_option linter.unusedSimpArgs false

set_option maxRecDepth 20000

theorem lvKy_mid {w : World} {b o : Nat} {c : Nat → Int} (h : ∀ j, j < 48 → w.cell? ⟨b, o + j, none⟩ = some (.int .u8 (c j))) : (lvKy ⟨b, o, none⟩).run Tryd.prog w = .ok (.agg (vs .u8 48 c)) w := by
  have hr : w.rangeAt b o ((List.range 48).map fun i => Value.int .u8 (c i)) := by
    intro j v hj
    have hlt : j < 48 := by
      have := (List.getElem?_eq_some_iff.1 hj).1
      simpa using this
    rw [h j hlt]
    simp [hlt] at hj
    rw [hj]
  exact loadAt_var (run_loadAt_mid w b o 44 _ _ hr Tryd.underlying44 rfl (by rw [List.length_map, List.length_range]; kernel_rfl))

def bdC15 (ps : Array (Nat × Value)) : Sem Value := Instr.build 47 ps

theorem bdC15_eq (ps : Array (Nat × Value)) : Instr.build 47 ps = bdC15 ps := rfl

def ix45 (x i : Value) : Sem Value := Instr.indexAt 45 x i

theorem ix45_eq (x i : Value) : Instr.indexAt 45 x i = ix45 x i := rfl

attribute [local go_sem ↓] lvState_eq svState_eq bdState_eq lvValidator_eq svValidator_eq ixValidator_eq lvCommittee_eq svCommittee_eq bdC15_eq ixKy_eq lvKy_eq svKy_eq ix45_eq

end Go.Proofs.YtficlakgameglaaDoor

namespace Go.Proofs.YtficlakgameglaaDoor

open Go.RowKit

set_option linter.unusedVariables false

set_option linter.unusedSimpArgs false

set_option maxRecDepth 20000

theorem lits_u8 (d : Nat) (c : Int) (h : 0 ≤ c ∧ c < 256) : Tryd.prog.keyLits (d + 1) 5 [.int .u8 c] = some [.int .u8 c] := by
  have hw : (Lit.int .u8 c).wf = true := by
    have : IntKind.u8.min = 0 ∧ IntKind.u8.max = 255 := by decide
    simp [Lit.wf, this]
    omega
  simp [Program.keyLits, Tryd.underlying5, hw]

/-- The bytes of a row, from a place on. -/
theorem bl_part (f : Nat → Int) (n o k : Nat) (h : o + k ≤ n) : ((bl f n).drop o).take k = bl (fun j => f (o + j)) k := by
  apply List.ext_getElem?
  intro j
  rw [List.getElem?_take]
  by_cases hj : j < k
  · rw [if_pos hj, List.getElem?_drop]
    unfold bl
    rw [List.getElem?_map, List.getElem?_range (by omega), List.getElem?_map, List.getElem?_range hj]
    rfl
  · rw [if_neg hj]
    unfold bl
    rw [List.getElem?_eq_none (by simp; omega)]

end Go.Proofs.YtficlakgameglaaDoor

namespace Go.Proofs.YtficlakgameglaaDoor

open Go.RowKit

set_option linter.unusedVariables false

set_option linter.unusedSimpArgs false

set_option maxRecDepth 20000

/-- A cell of an own row changed. -/
theorem ownSetC {w : World} {B k g n cap : Nat} {t : TypeId} {xs : List Value} (h : w.ownsRow B t k (.slice (some ⟨g, 0, none⟩) n cap) n xs) (i : Nat) (hi : i < n * k) (v : Value) : (w.setCell ⟨g, i, none⟩ v).ownsRow B t k (.slice (some ⟨g, 0, none⟩) n cap) n (xs.set i v) := by
  refine ⟨by rw [List.length_set]; exact h.1, ?_⟩
  rcases h.2 with ⟨e, _⟩ | ⟨g', cap', cur, e, h1, h2, h3, h4, h5, h6⟩
  · cases e
  · cases e
    refine .inr ⟨g, cap, cur.setIfInBounds i v, rfl, h1, row_set h2 i v, h3, h4, by rw [Array.size_setIfInBounds]; exact h5, ?_⟩
    rw [← h6]
    apply List.ext_getElem?
    intro j
    rw [List.getElem?_take, Array.getElem?_toList, Array.getElem?_setIfInBounds]
    have hs : i < cur.size := by
      rw [h5]
      exact Nat.lt_of_lt_of_le hi (Nat.mul_le_mul_right _ h3)
    by_cases hj : j < n * k
    · rw [if_pos hj, List.getElem?_set]
      by_cases hji : i = j
      · subst hji
        rw [if_pos rfl, if_pos rfl, if_pos hs, if_pos (by rw [List.length_take, Array.length_toList]; omega)]
      · rw [if_neg hji, if_neg hji, List.getElem?_take, if_pos hj, Array.getElem?_toList]
    · rw [if_neg hj, List.getElem?_eq_none (by rw [List.length_set, List.length_take]; omega)]

theorem nl_set (z : Nat → Int) (n i : Nat) (v : Int) : (nl z n).set i (.int .u64 v) = nl (fun j => if j = i then v else z j) n := by
  apply List.ext_getElem?
  intro j
  unfold nl
  rw [List.getElem?_set, List.getElem?_map, List.getElem?_map, List.length_map, List.length_range]
  by_cases hj : j < n
  · rw [List.getElem?_range hj]
    by_cases hi : i = j
    · subst hi
      rw [if_pos rfl, if_pos hj, Option.map_some]
      exact congrArg (fun x => some (Value.int .u64 x)) (if_pos rfl).symm
    · rw [if_neg hi, Option.map_some, Option.map_some]
      exact congrArg (fun x => some (Value.int .u64 x)) (if_neg (show ¬ j = i from fun e => hi e.symm)).symm
  · rw [List.getElem?_eq_none (by rw [List.length_range]; omega)]
    by_cases hi : i = j
    · subst hi
      rw [if_pos rfl, if_neg hj]
      rfl
    · rw [if_neg hi]
      rfl

end Go.Proofs.YtficlakgameglaaDoor

namespace Go.Proofs.YtficlakgameglaaDoor

open Go.RowKit

set_option linter.unusedVariables false

set_option linter.unusedSimpArgs false

set_option maxRecDepth 20000

theorem celL_by (N : Nat) (u : Nat → Int) : celL [.by N u] = bl u N := by
  show (List.range N).map _ ++ [] = _
  rw [List.append_nil]
  rfl

theorem byte_at {w : World} {g : Nat} {t : TypeId} (l1 l2 : List Seg) (N : Nat) (f : Nat → Int) (h : w.heap[g]? = some (.cells (cel (l1 ++ [.by N f] ++ l2)) t)) (p : Nat) (hp : p < N) : w.cell? ⟨g, slen l1 + p, none⟩ = some (.int .u8 (f p)) := by
  rw [row_cell h]
  show (celL (l1 ++ [.by N f] ++ l2)).toArray[slen l1 + p]? = _
  rw [List.getElem?_toArray, celL_app, celL_app, List.append_assoc, List.getElem?_append_right (by rw [celL_len]; omega), celL_len, Nat.add_sub_cancel_left, celL_by, List.getElem?_append_left (by rw [bl_len]; exact hp)]
  unfold bl
  rw [List.getElem?_map, List.getElem?_range hp]
  rfl

theorem splitKA (x : VState) (u : Nat → Int) : sState { x with f1 := u } = (sState x).take 1 ++ [.by 32 u] ++ (sState x).drop 2 := by kernel_rfl

theorem len1 (x : VState) : slen ((sState x).take 1) = 1 := by kernel_rfl

theorem at1 {w : World} {g : Nat} {x : VState} {t : TypeId} (h : w.heap[g]? = some (.cells (cel (sState x)) t)) (p : Nat) (hp : p < 32) : w.cell? ⟨g, 1 + p, none⟩ = some (.int .u8 (x.f1 p)) := by
  have := byte_at ((sState x).take 1) ((sState x).drop 2) 32 x.f1 (t := t) (by rw [← splitKA]; exact h) p hp
  rw [len1] at this
  exact this

end Go.Proofs.YtficlakgameglaaDoor

namespace Go.Proofs.YtficlakgameglaaDoor

open Go.RowKit

set_option linter.unusedVariables false

set_option linter.unusedSimpArgs false

set_option maxRecDepth 20000

theorem infoKy : ∃ i, Tryd.prog.info? 44 = some i ∧ i.zero = some (.agg (vs .u8 48 fun _ => 0)) ∧ i.size = 48 ∧ i.bytes = 48 := by
  have h : (Tryd.prog.info? 44).map (fun i => (i.zero, i.size, i.bytes)) = some (some (.agg (vs .u8 48 fun _ => 0)), 48, 48) := by kernel_rfl
  cases hq : Tryd.prog.info? 44 with
  | none => simp [hq] at h
  | some i => simp [hq] at h; exact ⟨i, rfl, h.1, h.2.1, h.2.2⟩

theorem wpList_append_kys (w : World) {ops : Array Oper} {rest : List Oper} {o : Oper} {a : Act} {Q : Exit → Act → World → Prop} (hgd : o.guard = none) (s x : Operand)
    (ho : o.op = .call { callee := .builtin .append, args := #[s, x], argTypes := #[84, 84] })
    (base : Nat) (v : Value) (n : Nat) (m : Nat → Int) (hs : a.eval s = v) (hown : w.ownsRow base 44 48 v n (bl m (48 * n)))
    (ao : Option Addr) (len cap : Nat) (f : Nat → Int) (hx : a.eval x = .slice ao len cap) (hb : Kys w ao len cap f) (hbd : (n + len) * 48 ≤ 140737488355328) (hbase : base ≤ w.heap.size)
    (m' : Nat → Int) (hm1 : ∀ q, q < 48 * n → m' q = m q) (hm2 : ∀ q, q < 48 * len → m' (48 * n + q) = f q)
    (h : ∀ v' w', w'.ownsRow base 44 48 v' (n + len) (bl m' (48 * (n + len))) → w.grownBy w' v.ownBlock → wpList Tryd.prog ops Q rest (a.put o.dst v') w') :
    wpList Tryd.prog ops Q (o :: rest) a w := by
  obtain ⟨i, hi, hz0, hz1, hz2⟩ := infoKy
  have hzz : (Value.agg (vs .u8 48 fun _ => 0)).cells.size = 48 := by simp [Value.cells, vs_size]
  have e : bl m (48 * n) ++ bl f (48 * len) = bl m' (48 * (n + len)) := by
    unfold bl
    rw [Nat.mul_add, List.range_add, List.map_append, List.map_map]
    congr 1
    · exact List.map_congr_left fun j hj => by rw [hm1 j (List.mem_range.1 hj)]
    · refine List.map_congr_left fun j hj => ?_
      show Value.int .u8 (f j) = Value.int .u8 (m' (48 * n + j))
      rw [hm2 j (List.mem_range.1 hj)]
  rcases hb with ⟨rfl, rfl, rfl⟩ | ⟨x0, rfl, rfl⟩ | ⟨b, off, rfl, hlc, hbl, hc⟩
  · refine wpList_append_own_none hgd s x 84 ho base 44 i 48 Tryd.underlying84 hi v n _ hs hown hx (h v w ?_ ⟨rfl, rfl, rfl, Nat.le_refl _, fun _ _ _ => rfl⟩)
    rw [← e]
    simpa [bl] using hown
  · exact wpList_append_own w hgd s x 84 ho base 44 i _ 48 48 Tryd.underlying84 hi hz0 hz1 hz2 hzz (by decide) v n _ hs hown x0 0 cap (bl f (48 * 0)) hx (by rw [bl_len])
      (fun j u hj => by
        have := (bl_get f (48 * 0) j u hj).1
        omega) (bl_one f _) (by unfold maxLen; omega) (by omega) hbase (fun v' w' h1 h2 _ => h v' w' (by rw [← e]; exact h1) h2)
  · exact wpList_append_own w hgd s x 84 ho base 44 i _ 48 48 Tryd.underlying84 hi hz0 hz1 hz2 hzz (by decide) v n _ hs hown ⟨b, off, none⟩ len cap (bl f (48 * len)) hx (by rw [bl_len]; omega)
      (fun j u hj => by
        obtain ⟨h1, rfl⟩ := bl_get f (48 * len) j u hj
        rw [addr_add]
        exact hc j h1) (bl_one f _) (by unfold maxLen; omega) (by omega) hbase (fun v' w' h1 h2 _ => h v' w' (by rw [← e]; exact h1) h2)

theorem below_grownK {B s : Nat} {w0 w w' : World} {v : Value} {n : Nat} {xs : List Value} {e : TypeId} (hb : Below B w0 w) (ho : w.ownsRow B e s v n xs) (hB : B ≤ w.heap.size) (hg : w.grownBy w' v.ownBlock) : Below B w0 w' :=
  ⟨hg.os.trans hb.os, hg.tape.trans hb.tape, hg.output.trans hb.output, Nat.le_trans hb.size hg.size, fun k hk => (hg.block k (by omega) (fun e => by have := (ho.lt k e.symm).1; omega)).trans (hb.block k hk)⟩

theorem own_kys {w : World} {B : Nat} {v : Value} {n : Nat} {f : Nat → Int} (h : w.ownsRow B 44 48 v n (bl f (48 * n))) : ∃ a cap, v = .slice a n cap ∧ Kys w a n cap f := by
  rcases h with ⟨_, ⟨rfl, rfl⟩ | ⟨g, cap, cur, rfl, h1, h2, h3, h4, h5, h6⟩⟩
  · exact ⟨none, 0, rfl, .inl ⟨rfl, rfl, rfl⟩⟩
  · have hg := (Array.getElem?_eq_some_iff.1 h2).1
    refine ⟨_, cap, rfl, .inr (.inr ⟨g, 0, rfl, h3, hg, fun q hq => ?_⟩)⟩
    have h7 : (cur.toList.take (n * 48))[q]? = (bl f (48 * n))[q]? := by rw [h6]
    have h8 : (bl f (48 * n))[q]? = some (.int .u8 (f q)) := by
      unfold bl
      rw [List.getElem?_map, List.getElem?_range hq]
      rfl
    rw [List.getElem?_take_of_lt (by omega), h8, Array.getElem?_toList] at h7
    rw [Nat.zero_add, row_cell h2]
    exact h7

attribute [local go_sem ↓] ixKy_eq lvKy_eq svKy_eq

end Go.Proofs.YtficlakgameglaaDoor
