/-
  The fields of a state whose bytes may be refused, read.
-/

import Derived.Test.YtehpfemlcjcabaaStH
namespace Go.Proofs.Ytehpfemlcjcabaa

open Go.RowKit

set_option linter.unusedVariables false

set_option linter.unusedSimpArgs false

set_option maxRecDepth 20000

/-- The state of nothing but zeros. -/
def oState : VState := ⟨0, fun _ => 0, 0, oFork, oHeader, fun _ => 0, fun _ => 0, ⟨none, 0, 0, fun _ => 0⟩, oEth1, ⟨none, 0, 0, fun _ => oEth1⟩, 0, ⟨none, 0, 0, fun _ => oValidator⟩, ⟨none, 0, 0, fun _ => 0⟩, fun _ => 0, fun _ => 0, ⟨none, 0, 0, fun _ => 0⟩, ⟨none, 0, 0, fun _ => 0⟩, fun _ => false, oCheckpoint, oCheckpoint, oCheckpoint, ⟨none, 0, 0, fun _ => 0⟩, oCommittee, oCommittee⟩

theorem zeroState (W : World) : (zeroValue 49).run Try.prog W = .ok (.agg (cel (sState oState))) W := by kernel_rfl

theorem bdState_0 (W : World) : (bdState #[]).run Try.prog W = .ok (.agg (cel (sState oState))) W := by kernel_rfl

/-- What stands while a state is read: the result's block, the state's own. -/
def RI (w : World) (r y : Nat) (x : VState) (X : World) : Prop := Below w.heap.size w X ∧ X.heap[r]? = some (.cells (cel (sState oState)) 49) ∧ X.heap[y]? = some (.cells (cel (sState x)) 49)

theorem some_lt {X : World} {r : Nat} {o : Obj} (h : X.heap[r]? = some o) : r < X.heap.size := (Array.getElem?_eq_some_iff.1 h).1

theorem some_cell {X : World} {y i : Nat} {x : VState} (h : X.heap[y]? = some (.cells (cel (sState x)) 49)) (hi : i < 1957) : ∃ v, X.cell? ⟨y, i, none⟩ = some v := ⟨_, (row_cell h i).trans (Array.getElem?_eq_getElem (by rw [cel_size, slState]; exact hi))⟩

theorem RI.below {w X X' : World} {r y : Nat} {x : VState} (h : RI w r y x X) (hb : Below X.heap.size X X') : RI w r y x X' :=
  ⟨h.1.trans (hb.mono h.1.size), (hb.block r (some_lt h.2.1)).trans h.2.1, (hb.block y (some_lt h.2.2)).trans h.2.2⟩

theorem RI.kept {w X X' : World} {r y : Nat} {x x' : VState} (h : RI w r y x X) (hr : r ≠ y) (hy : w.heap.size ≤ y) (hk : Kept y X X') (hn : X'.heap[y]? = some (.cells (cel (sState x')) 49)) : RI w r y x' X' :=
  ⟨h.1.trans (hk.below hy h.1.size), (hk.block r (some_lt h.2.1) hr).trans h.2.1, hn⟩

theorem RI.set {w X : World} {r y : Nat} {x x' : VState} (h : RI w r y x X) (hr : r ≠ y) (hy : w.heap.size ≤ y) (i : Nat) (v : Value) (he : (cel (sState x)).setIfInBounds i v = cel (sState x')) : RI w r y x' (X.setCell ⟨y, i, none⟩ v) :=
  h.kept hr hy ((Kept.refl y X).setCell i v) ((row_set h.2.2 i v).trans (congrArg (fun c => some (Obj.cells c 49)) he))

theorem RI.row {w X : World} {r y : Nat} {x x' : VState} (h : RI w r y x X) (hr : r ≠ y) (hy : w.heap.size ≤ y) : RI w r y x' (X.setRow y (cel (sState x'))) :=
  h.kept hr hy ((Kept.refl y X).setRow _) (setRow_at h.2.2)

theorem copy_bits4 (W : World) (g : Nat) (x : VState) (b : Nat → Bool) (a : Addr) (cap dcap : Nat) (t : TypeId) (hg : W.heap[g]? = some (.cells (cel (sState x)) t)) (hx : ∀ j, j < 4 → W.cell? (a.add j) = some (.bool (b j))) :
    ∀ ty, (Builtin.copy_ #[77, 77] ty #[.slice (some ⟨g, 989, none⟩) 4 dcap, .slice (some a) 4 cap]).run Try.prog W = .ok (.int .i64 4) (W.setRow g (cel (sState { x with f17 := b }))) := by
  intro ty
  have hrun := run_copy_row (P := Try.prog) W 77 77 ty 4 g 989 4 dcap a 4 cap (cel (sState x)) t (Z.bbl b 4) Try.underlying77 (by kernel_rfl) hg (by rw [Z.bbl_len]; rfl)
    (fun j v hj => by
      obtain ⟨h1, rfl⟩ := Z.bbl_get b 4 j v hj
      exact hx j h1) (by rw [Z.bbl_len, cel_size, slState]; omega) (Z.bbl_one b 4)
  rw [hrun, Z.bbl_len]
  have e := cel_put ((sState x).take 32) [.bo (x.f17 0), .bo (x.f17 1), .bo (x.f17 2), .bo (x.f17 3)] [.bo (b 0), .bo (b 1), .bo (b 2), .bo (b 3)] ((sState x).drop 36)
  rw [show slen ((sState x).take 32) = 989 by kernel_rfl, show (sState x).take 32 ++ [Seg.bo (x.f17 0), .bo (x.f17 1), .bo (x.f17 2), .bo (x.f17 3)] ++ (sState x).drop 36 = sState x by kernel_rfl, show (sState x).take 32 ++ [Seg.bo (b 0), .bo (b 1), .bo (b 2), .bo (b 3)] ++ (sState x).drop 36 = sState { x with f17 := b } by kernel_rfl] at e
  rw [← e]
  rfl

attribute [local go_sem ↓] lvState_eq svState_eq bdState_eq ixP_eq

/-- Parts of a state without lists. -/
structure P0 (L : Nat → Nat) (f : Nat → Nat → Int) : Prop where
  l0 : L 0 = 8
  l1 : L 1 = 32
  l2 : L 2 = 8
  l3 : L 3 = 16
  l4 : L 4 = 112
  l5 : L 5 = 256
  l6 : L 6 = 256
  l7 : L 7 = 0
  l8 : L 8 = 72
  l9 : L 9 = 0
  l10 : L 10 = 8
  l11 : L 11 = 0
  l12 : L 12 = 0
  l13 : L 13 = 256
  l14 : L 14 = 64
  l15 : L 15 = 0
  l16 : L 16 = 0
  l17 : L 17 = 1
  l18 : L 18 = 40
  l19 : L 19 = 40
  l20 : L 20 = 40
  l21 : L 21 = 0
  l22 : L 22 = 432
  l23 : L 23 = 432
  fb : ∀ r q, 0 ≤ f r q ∧ f r q < 256
  b17 : f 17 0 < 16

set_option maxHeartbeats 4000000 in
theorem rref0 (L : Nat → Nat) (f : Nat → Nat → Int) (gp : Nat) (A : Nat → Option Addr) (w : World) (hp : Z.Parts w (some ⟨gp, 0, none⟩) 24 A L L f) (h0 : P0 L f) :
    Calls Try.prog 37 #[.slice (some ⟨gp, 0, none⟩) 24 24] w fun e w' => ∃ X : VState, e = .returned (.tuple #[.agg (cel (sState X)), .int .i64 0]) ∧ Below w.heap.size w w' := by
  have HP : Hid (∀ X, Below w.heap.size w X → ∀ r, r < 24 → X.cell? ⟨gp, r, none⟩ = some (.slice (A r) (L r) (L r)) ∧ Bys X (A r) (L r) (L r) (f r)) := fun X h r hr => by
    obtain ⟨b, off, e, _, h1, h2⟩ := Z.parts_at (hp.below h) r hr
    cases e
    rw [Nat.zero_add] at h1
    exact ⟨h1, h2⟩
  have HIX : Hid (∀ (r : Nat) (X : World), r < 24 → (ixP (.slice (some ⟨gp, 0, none⟩) 24 24) (.int .i64 r)).run Try.prog X = .ok (.pointer (some ⟨gp, r, none⟩)) X) := fun r X hr => by
    have := ixP_run X gp 0 24 24 r hr
    rw [Nat.zero_add] at this
    exact this
  have H0 := hid h0
  have z := zeroState
  have bd := bdState_0
  obtain ⟨W1, hW1⟩ : ∃ W, w.alloc (.cells (cel (sState oState)) 49) = W := ⟨_, rfl⟩
  obtain ⟨W2, hW2⟩ : ∃ W, W1.alloc (.cells (cel (sState oState)) 49) = W := ⟨_, rfl⟩
  have z1 : W1.heap.size = w.heap.size + 1 := by rw [← hW1]; simp
  obtain ⟨r, er⟩ : ∃ r, r = w.heap.size := ⟨_, rfl⟩
  obtain ⟨y, ey⟩ : ∃ y, W1.heap.size = y := ⟨_, rfl⟩
  have hri : RI w r y oState W2 := by
    refine ⟨?_, ?_, ?_⟩
    · rw [← hW2, ← hW1]
      exact ((Below.refl _ _).alloc (Nat.le_refl _) _).alloc (by simp) _
    · rw [← hW2, er]
      refine (heap_old (by omega)).trans ?_
      rw [← hW1]
      exact heap_new rfl
    · rw [← hW2, ← ey]
      exact heap_new rfl
  have HRI := hid hri
  have HR := hid (show r ≠ y by omega)
  have HWY := hid (show w.heap.size ≤ y by omega)
  have HWR := hid (show w.heap.size ≤ r by omega)
  have er' := er.symm
  clear hp h0 hri z1 er
  go_enter Try.func37, Try.ntmps37
  go_upto_region 3 with fail
  clear hW1 hW2 ey z er'
  obtain ⟨l7, q7⟩ := HP.out _ HRI.out.1 7 (by omega)
  rw [H0.out.l7] at l7 q7
  obtain ⟨A7, eA7⟩ : ∃ a, A 7 = a := ⟨_, rfl⟩
  rw [eA7] at l7 q7
  have ix : ∀ X : World, (ixP (.slice (some ⟨gp, 0, none⟩) 24 24) (.int .i64 7)).run Try.prog X = .ok (.pointer (some ⟨gp, 7, none⟩)) X := fun X => HIX.out 7 X (by omega)
  have hc := re0Root (f 7) A7 0 W2 q7
  have HC := hid hc
  clear hc q7 eA7
  go_upto_region 4 with (go_at_call 70; refine HC.out.mono ?_; rintro e X0 ⟨g7, rfl, hb⟩; have hx := HRI.out.below hb; have HX := hid hx; obtain ⟨cd, ecd⟩ := some_cell hx.2.2 (i := 653) (by omega); have fy := row_frozen hx.2.2 653; clear hb hx)
  obtain ⟨V0, hV⟩ : ∃ V, X0.setCell ⟨y, 653, none⟩ (.slice (some ⟨g7, 0, none⟩) 0 0) = V := ⟨_, rfl⟩
  obtain ⟨x0, RI0⟩ : ∃ x, Hid (RI w r y x V0) := ⟨_, by rw [← hV]; exact hid (HX.out.set HR.out HWY.out 653 _ (st_7 _ (some ⟨g7, 0, none⟩) 0 0))⟩
  rw [hV]
  clear hV HX HC ix l7 ecd fy
  obtain ⟨l9, q9⟩ := HP.out _ RI0.out.1 9 (by omega)
  rw [H0.out.l9] at l9 q9
  obtain ⟨A9, eA9⟩ : ∃ a, A 9 = a := ⟨_, rfl⟩
  rw [eA9] at l9 q9
  have ix : ∀ X : World, (ixP (.slice (some ⟨gp, 0, none⟩) 24 24) (.int .i64 9)).run Try.prog X = .ok (.pointer (some ⟨gp, 9, none⟩)) X := fun X => HIX.out 9 X (by omega)
  have hc := re0Eth1 (f 9) A9 0 V0 q9
  have HC := hid hc
  clear hc q9 eA9
  go_upto_region 7 with (go_at_call 72; refine HC.out.mono ?_; rintro e X1 ⟨g9, rfl, hb⟩; have hx := RI0.out.below hb; have HX := hid hx; obtain ⟨cd, ecd⟩ := some_cell hx.2.2 (i := 719) (by omega); have fy := row_frozen hx.2.2 719; clear hb hx)
  obtain ⟨V1, hV⟩ : ∃ V, X1.setCell ⟨y, 719, none⟩ (.slice (some ⟨g9, 0, none⟩) 0 0) = V := ⟨_, rfl⟩
  obtain ⟨x1, RI1⟩ : ∃ x, Hid (RI w r y x V1) := ⟨_, by rw [← hV]; exact hid (HX.out.set HR.out HWY.out 719 _ (st_9 _ (some ⟨g9, 0, none⟩) 0 0))⟩
  rw [hV]
  clear hV HX HC ix l9 ecd fy
  obtain ⟨l11, q11⟩ := HP.out _ RI1.out.1 11 (by omega)
  rw [H0.out.l11] at l11 q11
  obtain ⟨A11, eA11⟩ : ∃ a, A 11 = a := ⟨_, rfl⟩
  rw [eA11] at l11 q11
  have ix : ∀ X : World, (ixP (.slice (some ⟨gp, 0, none⟩) 24 24) (.int .i64 11)).run Try.prog X = .ok (.pointer (some ⟨gp, 11, none⟩)) X := fun X => HIX.out 11 X (by omega)
  have hc := re0Validator (f 11) A11 0 V1 q11
  have HC := hid hc
  clear hc q11 eA11
  go_upto_region 10 with (go_at_call 73; refine HC.out.mono ?_; rintro e X2 ⟨g11, rfl, hb⟩; have hx := RI1.out.below hb; have HX := hid hx; obtain ⟨cd, ecd⟩ := some_cell hx.2.2 (i := 721) (by omega); have fy := row_frozen hx.2.2 721; clear hb hx)
  obtain ⟨V2, hV⟩ : ∃ V, X2.setCell ⟨y, 721, none⟩ (.slice (some ⟨g11, 0, none⟩) 0 0) = V := ⟨_, rfl⟩
  obtain ⟨x2, RI2⟩ : ∃ x, Hid (RI w r y x V2) := ⟨_, by rw [← hV]; exact hid (HX.out.set HR.out HWY.out 721 _ (st_11 _ (some ⟨g11, 0, none⟩) 0 0))⟩
  rw [hV]
  clear hV HX HC ix l11 ecd fy
  obtain ⟨l12, q12⟩ := HP.out _ RI2.out.1 12 (by omega)
  rw [H0.out.l12] at l12 q12
  obtain ⟨A12, eA12⟩ : ∃ a, A 12 = a := ⟨_, rfl⟩
  rw [eA12] at l12 q12
  have ix : ∀ X : World, (ixP (.slice (some ⟨gp, 0, none⟩) 24 24) (.int .i64 12)).run Try.prog X = .ok (.pointer (some ⟨gp, 12, none⟩)) X := fun X => HIX.out 12 X (by omega)
  have hc := re0U64 (f 12) A12 0 V2 q12
  have HC := hid hc
  clear hc q12 eA12
  go_upto_region 13 with (go_at_call 75; refine HC.out.mono ?_; rintro e X3 ⟨g12, rfl, hb⟩; have hx := RI2.out.below hb; have HX := hid hx; obtain ⟨cd, ecd⟩ := some_cell hx.2.2 (i := 722) (by omega); have fy := row_frozen hx.2.2 722; clear hb hx)
  obtain ⟨V3, hV⟩ : ∃ V, X3.setCell ⟨y, 722, none⟩ (.slice (some ⟨g12, 0, none⟩) 0 0) = V := ⟨_, rfl⟩
  obtain ⟨x3, RI3⟩ : ∃ x, Hid (RI w r y x V3) := ⟨_, by rw [← hV]; exact hid (HX.out.set HR.out HWY.out 722 _ (st_12 _ (some ⟨g12, 0, none⟩) 0 0))⟩
  rw [hV]
  clear hV HX HC ix l12 ecd fy
  obtain ⟨l15, q15⟩ := HP.out _ RI3.out.1 15 (by omega)
  rw [H0.out.l15] at l15 q15
  obtain ⟨A15, eA15⟩ : ∃ a, A 15 = a := ⟨_, rfl⟩
  rw [eA15] at l15 q15
  have ix : ∀ X : World, (ixP (.slice (some ⟨gp, 0, none⟩) 24 24) (.int .i64 15)).run Try.prog X = .ok (.pointer (some ⟨gp, 15, none⟩)) X := fun X => HIX.out 15 X (by omega)
  have hc := rfl0 (f 15) A15 0 V3 q15
  have HC := hid hc
  clear hc q15 eA15
  go_upto_region 16 with (go_at_call 76; refine HC.out.mono ?_; rintro e X4 ⟨b15, d15, rfl, hb⟩; have hx := RI3.out.below hb; have HX := hid hx; obtain ⟨cd, ecd⟩ := some_cell hx.2.2 (i := 987) (by omega); have fy := row_frozen hx.2.2 987; clear hb hx)
  obtain ⟨V4, hV⟩ : ∃ V, X4.setCell ⟨y, 987, none⟩ (.slice b15 0 d15) = V := ⟨_, rfl⟩
  obtain ⟨x4, RI4⟩ : ∃ x, Hid (RI w r y x V4) := ⟨_, by rw [← hV]; exact hid (HX.out.set HR.out HWY.out 987 _ (st_15 _ b15 0 d15))⟩
  rw [hV]
  clear hV HX HC ix l15 ecd fy
  obtain ⟨l16, q16⟩ := HP.out _ RI4.out.1 16 (by omega)
  rw [H0.out.l16] at l16 q16
  obtain ⟨A16, eA16⟩ : ∃ a, A 16 = a := ⟨_, rfl⟩
  rw [eA16] at l16 q16
  have ix : ∀ X : World, (ixP (.slice (some ⟨gp, 0, none⟩) 24 24) (.int .i64 16)).run Try.prog X = .ok (.pointer (some ⟨gp, 16, none⟩)) X := fun X => HIX.out 16 X (by omega)
  have hc := rfl0 (f 16) A16 0 V4 q16
  have HC := hid hc
  clear hc q16 eA16
  go_upto_region 19 with (go_at_call 76; refine HC.out.mono ?_; rintro e X5 ⟨b16, d16, rfl, hb⟩; have hx := RI4.out.below hb; have HX := hid hx; obtain ⟨cd, ecd⟩ := some_cell hx.2.2 (i := 988) (by omega); have fy := row_frozen hx.2.2 988; clear hb hx)
  obtain ⟨V5, hV⟩ : ∃ V, X5.setCell ⟨y, 988, none⟩ (.slice b16 0 d16) = V := ⟨_, rfl⟩
  obtain ⟨x5, RI5⟩ : ∃ x, Hid (RI w r y x V5) := ⟨_, by rw [← hV]; exact hid (HX.out.set HR.out HWY.out 988 _ (st_16 _ b16 0 d16))⟩
  rw [hV]
  clear hV HX HC ix l16 ecd fy
  obtain ⟨l17, q17⟩ := HP.out _ RI5.out.1 17 (by omega)
  rw [H0.out.l17] at l17 q17
  obtain ⟨A17, eA17⟩ : ∃ a, A 17 = a := ⟨_, rfl⟩
  rw [eA17] at l17 q17
  have ix : ∀ X : World, (ixP (.slice (some ⟨gp, 0, none⟩) 24 24) (.int .i64 17)).run Try.prog X = .ok (.pointer (some ⟨gp, 17, none⟩)) X := fun X => HIX.out 17 X (by omega)
  have hrv := Z.readv_any (fun q => (f 17 q).toNat) A17 1 1 4 V5 (by
    have e : (fun q => (((f 17 q).toNat : Nat) : Int)) = f 17 := funext fun q => Int.toNat_of_nonneg (H0.out.fb 17 q).1
    rw [e]
    exact q17) (fun q _ => by have := H0.out.fb 17 q; omega) (by omega)
  have e17 : Z.rvE (fun q => (f 17 q).toNat) 1 4 = 0 ∧ Z.rvN (fun q => (f 17 q).toNat) 1 4 = 4 := Z.rv_ok (by omega) (by omega) (by decide) (Z.frB_false fun i h1 h2 => by
    unfold Z.tb
    have hb := H0.out.b17
    have h8 : i < 8 := by omega
    have h4 : 4 ≤ i := h2
    rw [show i / 8 = 0 by omega, show i % 8 = i by omega]
    exact Nat.testBit_lt_two_pow (Nat.lt_of_lt_of_le (show (f 17 0).toNat < 2 ^ 4 by omega) (Nat.pow_le_pow_right (by omega) h4)))
  rw [e17.1, e17.2] at hrv
  have HC := hid hrv
  clear hrv e17 q17 eA17
  go_upto_region 22 with (go_at_call 77; refine HC.out.mono ?_; rintro e X6 ⟨a17, c17, rfl, hbl, hb⟩; have HX := hid (RI5.out.below hb); have HBL := hid hbl; clear hb hbl)
  clear HC ix l17
  obtain ⟨b8, o8, e8, hb8⟩ : ∃ b o, a17 = some ⟨b, o, none⟩ ∧ ∀ j, j < 4 → X6.cell? ⟨b, o + j, none⟩ = some (.bool (Z.tb (fun q => (f 17 q).toNat) j)) := by
    rcases HBL.out with ⟨_, h, _⟩ | ⟨_, _, h⟩ | ⟨b, o, h1, _, _, _, h2⟩
    · omega
    · omega
    · exact ⟨b, o, h1, h2⟩
  subst e8
  have hcp := copy_bits4 X6 y _ (Z.tb (fun q => (f 17 q).toNat)) ⟨b8, o8, none⟩ c17 4 49 HX.out.2.2 (fun j hj => by rw [addr_add]; exact hb8 j hj)
  obtain ⟨x6, ex⟩ : ∃ x, { x5 with f17 := Z.tb (fun q => (f 17 q).toNat) } = x := ⟨_, rfl⟩
  rw [ex] at hcp
  obtain ⟨V6, hV⟩ : ∃ V, X6.setRow y (cel (sState x6)) = V := ⟨_, rfl⟩
  have RI6 : Hid (RI w r y x6 V6) := by rw [← hV]; exact HX.out.row HR.out HWY.out
  rw [hV] at hcp
  have cp := hcp 3
  clear hcp hb8 HBL ex hV HX
  go_upto_region 25 with fail
  clear cp
  obtain ⟨l21, q21⟩ := HP.out _ RI6.out.1 21 (by omega)
  rw [H0.out.l21] at l21 q21
  obtain ⟨A21, eA21⟩ : ∃ a, A 21 = a := ⟨_, rfl⟩
  rw [eA21] at l21 q21
  have ix : ∀ X : World, (ixP (.slice (some ⟨gp, 0, none⟩) 24 24) (.int .i64 21)).run Try.prog X = .ok (.pointer (some ⟨gp, 21, none⟩)) X := fun X => HIX.out 21 X (by omega)
  have hc := re0U64 (f 21) A21 0 V6 q21
  have HC := hid hc
  clear hc q21 eA21
  go_upto_region 26 with (go_at_call 75; refine HC.out.mono ?_; rintro e X7 ⟨g21, rfl, hb⟩; have hx := RI6.out.below hb; have HX := hid hx; obtain ⟨cd, ecd⟩ := some_cell hx.2.2 (i := 1092) (by omega); have fy := row_frozen hx.2.2 1092; clear hb hx)
  obtain ⟨V7, hV⟩ : ∃ V, X7.setCell ⟨y, 1092, none⟩ (.slice (some ⟨g21, 0, none⟩) 0 0) = V := ⟨_, rfl⟩
  obtain ⟨x7, RI7⟩ : ∃ x, Hid (RI w r y x V7) := ⟨_, by rw [← hV]; exact hid (HX.out.set HR.out HWY.out 1092 _ (st_21 _ (some ⟨g21, 0, none⟩) 0 0))⟩
  rw [hV]
  clear hV HX HC ix l21 ecd fy
  have lv := lvState_run RI7.out.2.2
  have sv := svState_run RI7.out.2.1 x7
  go_wp2
  refine retState _ _ r _ 49 _ rfl rfl rfl rfl (setRow_at RI7.out.2.1) ⟨x7, rfl, ?_⟩
  exact below_row RI7.out.1 HWR.out _

end Go.Proofs.Ytehpfemlcjcabaa
