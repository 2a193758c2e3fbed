/-
  What the reference's Proposer answers.
  The statements' own few: a state with some validators; and their awake, by what the program's functions answer.
  What the program's functions of layer 15 have to answer, and the statements' own alone and awake.
  Lists of a copied state changed cell by cell.
-/
import Derived.Test.YtmapeodhcllimaaDoorPkB
import Derived.Test.YtmapeodhcllimaaDoorQG
import Derived.Test.YtmapeodhcllimaaDoorQC
import Derived.Test.YtmapeodhcllimaaDoorQH
import Derived.Deep.Cut

import Derived.ArgAppend

namespace Go.Proofs.YtmapeodhcllimaaDoor

open Go.RowKit

set_option linter.unusedVariables false

set_option linter.unusedSimpArgs false

set_option maxRecDepth 20000

attribute [local go_sem ↓] lvState_eq svState_eq bdState_eq lvValidator_eq svValidator_eq ixValidator_eq sv24_eq lv24_eq sv8_eq

/-- Who proposes. -/
def prS (x : VState) : Nat → Int := shaV KW HW (sd8 (seedV x (x.f2 / 4) 0) x.f2) 40

def prL (x : VState) : List Int := dwL x.f11.z (acE x (x.f2 / 4)) (prS x) 1

def prE (x : VState) : Int := dwE x.f11.z (acE x (x.f2 / 4)) (prS x) 1

def prV (x : VState) : Int := (prL x).getD 0 0

end Go.Proofs.YtmapeodhcllimaaDoor

namespace Go.Proofs.YtmapeodhcllimaaDoor

open Go.RowKit

set_option linter.unusedVariables false

set_option linter.unusedSimpArgs false

set_option maxRecDepth 100000

/-- A validator that is active from the start. -/
def oV2 : VValidator := ⟨fun _ => 0, fun _ => 0, 32000000000, false, 0, 0, 18446744073709551615, 18446744073709551615⟩

/-- The lists of such a state. -/
structure FS where
  a11 : Option Addr
  n11 : Nat
  c11 : Nat
  a12 : Option Addr
  n12 : Nat
  c12 : Nat
  a15 : Option Addr
  n15 : Nat
  c15 : Nat
  a16 : Option Addr
  n16 : Nat
  c16 : Nat
  a21 : Option Addr
  n21 : Nat
  c21 : Nat

def fX (s : FS) : VState := { oState with f11 := ⟨s.a11, s.n11, s.c11, fun _ => oV2⟩, f12 := ⟨s.a12, s.n12, s.c12, fun _ => 32000000000⟩, f15 := ⟨s.a15, s.n15, s.c15, fun _ => 0⟩, f16 := ⟨s.a16, s.n16, s.c16, fun _ => 0⟩, f21 := ⟨s.a21, s.n21, s.c21, fun _ => 0⟩ }

def fs0 : FS := ⟨none, 0, 0, none, 0, 0, none, 0, 0, none, 0, 0, none, 0, 0⟩

theorem okCz : OkState (fX fs0) := by
  have z : (0 : Int) ≤ 0 ∧ (0 : Int) < 256 := by decide
  have zz : (0 : Int) ≤ 0 ∧ (0 : Int) < 18446744073709551616 := by decide
  exact ⟨zz, fun _ _ => z, zz, ⟨fun _ _ => z, fun _ _ => z, zz⟩, ⟨zz, zz, fun _ _ => z, fun _ _ => z, fun _ _ => z⟩, fun _ _ => z, fun _ _ => z, fun _ h => absurd h (Nat.not_lt_zero _), ⟨fun _ _ => z, zz, fun _ _ => z⟩, fun _ h => absurd h (Nat.not_lt_zero _), zz, fun _ h => absurd h (Nat.not_lt_zero _), fun _ h => absurd h (Nat.not_lt_zero _), fun _ _ => z, fun _ _ => zz, fun _ h => absurd h (Nat.not_lt_zero _), fun _ h => absurd h (Nat.not_lt_zero _), ⟨zz, fun _ _ => z⟩, ⟨zz, fun _ _ => z⟩, ⟨zz, fun _ _ => z⟩, fun _ h => absurd h (Nat.not_lt_zero _), ⟨fun _ _ => z, fun _ _ => z⟩, ⟨fun _ _ => z, fun _ _ => z⟩⟩

attribute [local go_sem ↓] lvState_eq svState_eq bdState_eq bvV_eq bsV_eq

end Go.Proofs.YtmapeodhcllimaaDoor

namespace Go.Proofs.YtmapeodhcllimaaDoor

open Go.RowKit

set_option linter.unusedVariables false

set_option linter.unusedSimpArgs false

set_option maxRecDepth 100000

/-- A state with one validator, that is active. -/
def X2 (g1 g2 g3 g4 g5 : Nat) : VState := { oState with f11 := ⟨some ⟨g1, 0, none⟩, 1, 1, fun _ => oV2⟩, f12 := ⟨some ⟨g2, 0, none⟩, 1, 1, fun _ => 0⟩, f15 := ⟨some ⟨g3, 0, none⟩, 1, 1, fun _ => 0⟩, f16 := ⟨some ⟨g4, 0, none⟩, 1, 1, fun _ => 0⟩, f21 := ⟨some ⟨g5, 0, none⟩, 1, 1, fun _ => 0⟩ }

theorem ok_z15 : OkState oState := by
  have h := okCz
  exact ⟨h.o0, h.o1, h.o2, h.o3, h.o4, h.o5, h.o6, h.o7, h.o8, h.o9, h.o10, fun _ hj => absurd hj (Nat.not_lt_zero _), fun _ hj => absurd hj (Nat.not_lt_zero _), h.o13, h.o14, fun _ hj => absurd hj (Nat.not_lt_zero _), fun _ hj => absurd hj (Nat.not_lt_zero _), h.o18, h.o19, h.o20, fun _ hj => absurd hj (Nat.not_lt_zero _), h.o22, h.o23⟩

theorem setRow_other {w : World} {b k : Nat} {C : Array Value} (h : k ≠ b) : (w.setRow b C).heap[k]? = w.heap[k]? := by
  simp only [World.setRow, Array.getElem?_modify]
  rw [if_neg (fun e => h e.symm)]

attribute [local go_sem ↓] lvState_eq svState_eq bdState_eq lvValidator_eq svValidator_eq ixValidator_eq bvV_eq bsV_eq

end Go.Proofs.YtmapeodhcllimaaDoor

namespace Go.Proofs.YtmapeodhcllimaaDoor

open Go.RowKit

set_option linter.unusedVariables false

set_option linter.unusedSimpArgs false

set_option maxRecDepth 20000

/-- A cell of an own row changed. -/
theorem ownSetC {w : World} {B k g n cap : Nat} {t : TypeId} {xs : List Value} (h : w.ownsRow B t k (.slice (some ⟨g, 0, none⟩) n cap) n xs) (i : Nat) (hi : i < n * k) (v : Value) : (w.setCell ⟨g, i, none⟩ v).ownsRow B t k (.slice (some ⟨g, 0, none⟩) n cap) n (xs.set i v) := by
  refine ⟨by rw [List.length_set]; exact h.1, ?_⟩
  rcases h.2 with ⟨e, _⟩ | ⟨g', cap', cur, e, h1, h2, h3, h4, h5, h6⟩
  · cases e
  · cases e
    refine .inr ⟨g, cap, cur.setIfInBounds i v, rfl, h1, row_set h2 i v, h3, h4, by rw [Array.size_setIfInBounds]; exact h5, ?_⟩
    rw [← h6]
    apply List.ext_getElem?
    intro j
    rw [List.getElem?_take, Array.getElem?_toList, Array.getElem?_setIfInBounds]
    have hs : i < cur.size := by
      rw [h5]
      exact Nat.lt_of_lt_of_le hi (Nat.mul_le_mul_right _ h3)
    by_cases hj : j < n * k
    · rw [if_pos hj, List.getElem?_set]
      by_cases hji : i = j
      · subst hji
        rw [if_pos rfl, if_pos rfl, if_pos hs, if_pos (by rw [List.length_take, Array.length_toList]; omega)]
      · rw [if_neg hji, if_neg hji, List.getElem?_take, if_pos hj, Array.getElem?_toList]
    · rw [if_neg hj, List.getElem?_eq_none (by rw [List.length_set, List.length_take]; omega)]

theorem flat_set {e : Nat → List Value} {k : Nat} (h : ∀ i, (e i).length = k) (n i p : Nat) (hi : i < n) (hp : p < k) (v : Value) : (flat e n).set (i * k + p) v = flat (fun j => if j = i then (e i).set p v else e j) n := by
  have h' : ∀ j, ((fun j => if j = i then (e i).set p v else e j) j).length = k := fun j => by
    show (if j = i then (e i).set p v else e j).length = k
    by_cases hj : j = i
    · rw [if_pos hj, List.length_set]; exact h i
    · rw [if_neg hj]; exact h j
  apply List.ext_getElem?
  intro q
  rw [List.getElem?_set]
  by_cases hq : q < n * k
  · have hk : 0 < k := by omega
    have hd : q / k < n := Nat.div_lt_of_lt_mul (by rw [Nat.mul_comm]; exact hq)
    have hm : q % k < k := Nat.mod_lt _ hk
    have e1 : q / k * k + q % k = q := by rw [Nat.mul_comm]; exact Nat.div_add_mod q k
    have f1 := flat_at h (q / k) (q % k) hm n hd
    have f2 := flat_at h' (q / k) (q % k) hm n hd
    rw [e1] at f1 f2
    rw [f2]
    by_cases hqi : i * k + p = q
    · have hq1 : q / k = i := by
        rw [← hqi, Nat.mul_comm i k, Nat.mul_add_div hk, Nat.div_eq_of_lt hp, Nat.add_zero]
      have hq2 : q % k = p := by
        rw [← hqi, Nat.mul_comm i k, Nat.mul_add_mod, Nat.mod_eq_of_lt hp]
      rw [if_pos hqi, hq1, hq2]
      show _ = (if i = i then (e i).set p v else e i)[p]?
      rw [if_pos rfl, List.getElem?_set_self (by rw [h i]; exact hp), if_pos (by rw [flat_len h n, hqi]; exact hq)]
    · rw [if_neg hqi, f1]
      show _ = (if q / k = i then (e i).set p v else e (q / k))[q % k]?
      by_cases hq1 : q / k = i
      · rw [if_pos hq1, hq1, List.getElem?_set_ne (fun hh => hqi (by rw [hh, ← hq1]; exact e1))]
      · rw [if_neg hq1]
  · have l2 : (flat (fun j => if j = i then (e i).set p v else e j) n)[q]? = none := List.getElem?_eq_none (by rw [flat_len h' n]; omega)
    have l1 : (flat e n)[q]? = none := List.getElem?_eq_none (by rw [flat_len h n]; omega)
    rw [l2, l1]
    by_cases hqi : i * k + p = q
    · exfalso
      have : i * k + k ≤ n * k := by
        rw [← Nat.succ_mul]
        exact Nat.mul_le_mul_right _ hi
      omega
    · rw [if_neg hqi]

/-- A copy of which only some lists are looked at. -/
structure BZ (w : World) (y : Nat) (V : World) (Z : VState) (r : Nat → VValidator) (b c : Nat → Int) : Prop where
  bel : Below w.heap.size w V
  row : V.heap[y]? = some (.cells (cel (sState Z)) 49)
  o11 : V.ownsRow w.heap.size 63 86 (.slice Z.f11.a Z.f11.n Z.f11.c) Z.f11.n (flat (fun i => celL (sValidator (r i))) Z.f11.n)
  o12 : V.ownsRow w.heap.size 22 1 (.slice Z.f12.a Z.f12.n Z.f12.c) Z.f12.n (nl b Z.f12.n)
  o16 : V.ownsRow w.heap.size 5 1 (.slice Z.f16.a Z.f16.n Z.f16.c) Z.f16.n (bl c Z.f16.n)

theorem BZ.cells {w V : World} {y : Nat} {Z Z' : VState} {r : Nat → VValidator} {b c : Nat → Int} (h : BZ w y V Z r b c) (hy : w.heap.size ≤ y) (o : Nat) (l : List Value) (he : putL (cel (sState Z)) o l = cel (sState Z')) (e11 : Z'.f11 = Z.f11) (e12 : Z'.f12 = Z.f12) (e16 : Z'.f16 = Z.f16) : BZ w y (V.setCells y o l) Z' r b c := by
  have hk : Kept y V (V.setCells y o l) := setCells_kept l o (Kept.refl y V)
  refine ⟨h.bel.trans (hk.below hy h.bel.size), (setCells_row l o h.row).trans (congrArg (fun c => some (Obj.cells c 49)) he), ?_, ?_, ?_⟩
  · rw [e11]; exact own_keptB h.o11 hk (own_ne h.o11 h.row (by decide))
  · rw [e12]; exact own_keptB h.o12 hk (own_ne h.o12 h.row (by decide))
  · rw [e16]; exact own_keptB h.o16 hk (own_ne h.o16 h.row (by decide))

theorem BZ.cell {w V : World} {y : Nat} {Z Z' : VState} {r : Nat → VValidator} {b c : Nat → Int} (h : BZ w y V Z r b c) (hy : w.heap.size ≤ y) (o : Nat) (v : Value) (he : (cel (sState Z)).setIfInBounds o v = cel (sState Z')) (e11 : Z'.f11 = Z.f11) (e12 : Z'.f12 = Z.f12) (e16 : Z'.f16 = Z.f16) : BZ w y (V.setCell ⟨y, o, none⟩ v) Z' r b c :=
  h.cells hy o [v] he e11 e12 e16

/-- A round of the changes of a copy's lists. -/
theorem ownBlkC {w : World} {B k n cap g : Nat} {t : TypeId} {xs : List Value} (h : w.ownsRow B t k (.slice (some ⟨g, 0, none⟩) n cap) n xs) : ∃ C, w.heap[g]? = some (.cells C t) := by
  rcases h.2 with ⟨e, _⟩ | ⟨g', cap', cur, e, h1, h2, _⟩
  · cases e
  · cases e
    exact ⟨cur, h2⟩

theorem nl_set (z : Nat → Int) (n i : Nat) (v : Int) : (nl z n).set i (.int .u64 v) = nl (fun j => if j = i then v else z j) n := by
  apply List.ext_getElem?
  intro j
  unfold nl
  rw [List.getElem?_set, List.getElem?_map, List.getElem?_map, List.length_map, List.length_range]
  by_cases hj : j < n
  · rw [List.getElem?_range hj]
    by_cases hi : i = j
    · subst hi
      rw [if_pos rfl, if_pos hj, Option.map_some]
      exact congrArg (fun x => some (Value.int .u64 x)) (if_pos rfl).symm
    · rw [if_neg hi, Option.map_some, Option.map_some]
      exact congrArg (fun x => some (Value.int .u64 x)) (if_neg (show ¬ j = i from fun e => hi e.symm)).symm
  · rw [List.getElem?_eq_none (by rw [List.length_range]; omega)]
    by_cases hi : i = j
    · subst hi
      rw [if_pos rfl, if_neg hj]
      rfl
    · rw [if_neg hi]
      rfl

theorem bl_set (z : Nat → Int) (n i : Nat) (v : Int) : (bl z n).set i (.int .u8 v) = bl (fun j => if j = i then v else z j) n := by
  apply List.ext_getElem?
  intro j
  unfold bl
  rw [List.getElem?_set, List.getElem?_map, List.getElem?_map, List.length_map, List.length_range]
  by_cases hj : j < n
  · rw [List.getElem?_range hj]
    by_cases hi : i = j
    · subst hi
      rw [if_pos rfl, if_pos hj, Option.map_some]
      exact congrArg (fun x => some (Value.int .u8 x)) (if_pos rfl).symm
    · rw [if_neg hi, Option.map_some, Option.map_some]
      exact congrArg (fun x => some (Value.int .u8 x)) (if_neg (show ¬ j = i from fun e => hi e.symm)).symm
  · rw [List.getElem?_eq_none (by rw [List.length_range]; omega)]
    by_cases hi : i = j
    · subst hi
      rw [if_pos rfl, if_neg hj]
      rfl
    · rw [if_neg hi]
      rfl

theorem kept_row {w V : World} {g y : Nat} {i : Nat} {v : Value} {C D : Array Value} {t t' : TypeId} (hy : V.heap[y]? = some (.cells D t')) (hg : V.heap[g]? = some (.cells C t)) (ht : t ≠ t') : (V.setCell ⟨g, i, none⟩ v).heap[y]? = some (.cells D t') := by
  have hne : y ≠ g := fun e => by
    subst e
    rw [hy] at hg
    injection hg with q
    injection q with _ q2
    exact absurd q2.symm ht
  exact (((Kept.refl g V).setCell i v).block y (some_lt hy) hne).trans hy

theorem BZ.bal {w V : World} {y i g : Nat} {Z : VState} {r : Nat → VValidator} {b c : Nat → Int} (h : BZ w y V Z r b c) (hy : w.heap.size ≤ y) (hg : Z.f12.a = some ⟨g, 0, none⟩) (hi : i < Z.f12.n) (x : Int) : BZ w y (V.setCell ⟨g, i, none⟩ (.int .u64 x)) Z r (fun j => if j = i then x else b j) c := by
  have o12 := h.o12
  rw [hg] at o12
  have n12 := ownSetC o12 i (by omega) (.int .u64 x)
  rw [nl_set] at n12
  obtain ⟨C, hrg⟩ := ownBlkC o12
  have hk : Kept g V (V.setCell ⟨g, i, none⟩ (.int .u64 x)) := (Kept.refl g V).setCell _ _
  exact ⟨h.bel.trans (hk.below (o12.lt g rfl).1 h.bel.size), kept_row (w := w) h.row hrg (by decide), own_keptB h.o11 hk (own_ne h.o11 hrg (by decide)), by rw [hg]; exact n12, own_keptB h.o16 hk (own_ne h.o16 hrg (by decide))⟩

theorem BZ.cur {w V : World} {y i g : Nat} {Z : VState} {r : Nat → VValidator} {b c : Nat → Int} (h : BZ w y V Z r b c) (hy : w.heap.size ≤ y) (hg : Z.f16.a = some ⟨g, 0, none⟩) (hi : i < Z.f16.n) (x : Int) : BZ w y (V.setCell ⟨g, i, none⟩ (.int .u8 x)) Z r b (fun j => if j = i then x else c j) := by
  have o16 := h.o16
  rw [hg] at o16
  have n16 := ownSetC o16 i (by omega) (.int .u8 x)
  rw [bl_set] at n16
  obtain ⟨C, hrg⟩ := ownBlkC o16
  have hk : Kept g V (V.setCell ⟨g, i, none⟩ (.int .u8 x)) := (Kept.refl g V).setCell _ _
  exact ⟨h.bel.trans (hk.below (o16.lt g rfl).1 h.bel.size), kept_row (w := w) h.row hrg (by decide), own_keptB h.o11 hk (own_ne h.o11 hrg (by decide)), own_keptB h.o12 hk (own_ne h.o12 hrg (by decide)), by rw [hg]; exact n16⟩

end Go.Proofs.YtmapeodhcllimaaDoor
