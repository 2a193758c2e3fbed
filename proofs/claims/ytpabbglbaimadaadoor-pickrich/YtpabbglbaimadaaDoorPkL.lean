/-
  Lists of a copied state changed cell by cell.
-/

import Derived.Test.YtpabbglbaimadaaDoorPkE
import Derived.Test.YtpabbglbaimadaaDoorStS
namespace Go.Proofs.YtpabbglbaimadaaDoor

open Go.RowKit

set_option linter.unusedVariables false

set_option linter.unusedSimpArgs false

set_option maxRecDepth 20000

/-- A cell of an own row changed. -/
theorem ownSetC {w : World} {B k g n cap : Nat} {t : TypeId} {xs : List Value} (h : w.ownsRow B t k (.slice (some ⟨g, 0, none⟩) n cap) n xs) (i : Nat) (hi : i < n * k) (v : Value) : (w.setCell ⟨g, i, none⟩ v).ownsRow B t k (.slice (some ⟨g, 0, none⟩) n cap) n (xs.set i v) := by
  refine ⟨by rw [List.length_set]; exact h.1, ?_⟩
  rcases h.2 with ⟨e, _⟩ | ⟨g', cap', cur, e, h1, h2, h3, h4, h5, h6⟩
  · cases e
  · cases e
    refine .inr ⟨g, cap, cur.setIfInBounds i v, rfl, h1, row_set h2 i v, h3, h4, by rw [Array.size_setIfInBounds]; exact h5, ?_⟩
    rw [← h6]
    apply List.ext_getElem?
    intro j
    rw [List.getElem?_take, Array.getElem?_toList, Array.getElem?_setIfInBounds]
    have hs : i < cur.size := by
      rw [h5]
      exact Nat.lt_of_lt_of_le hi (Nat.mul_le_mul_right _ h3)
    by_cases hj : j < n * k
    · rw [if_pos hj, List.getElem?_set]
      by_cases hji : i = j
      · subst hji
        rw [if_pos rfl, if_pos rfl, if_pos hs, if_pos (by rw [List.length_take, Array.length_toList]; omega)]
      · rw [if_neg hji, if_neg hji, List.getElem?_take, if_pos hj, Array.getElem?_toList]
    · rw [if_neg hj, List.getElem?_eq_none (by rw [List.length_set, List.length_take]; omega)]

theorem flat_set {e : Nat → List Value} {k : Nat} (h : ∀ i, (e i).length = k) (n i p : Nat) (hi : i < n) (hp : p < k) (v : Value) : (flat e n).set (i * k + p) v = flat (fun j => if j = i then (e i).set p v else e j) n := by
  have h' : ∀ j, ((fun j => if j = i then (e i).set p v else e j) j).length = k := fun j => by
    show (if j = i then (e i).set p v else e j).length = k
    by_cases hj : j = i
    · rw [if_pos hj, List.length_set]; exact h i
    · rw [if_neg hj]; exact h j
  apply List.ext_getElem?
  intro q
  rw [List.getElem?_set]
  by_cases hq : q < n * k
  · have hk : 0 < k := by omega
    have hd : q / k < n := Nat.div_lt_of_lt_mul (by rw [Nat.mul_comm]; exact hq)
    have hm : q % k < k := Nat.mod_lt _ hk
    have e1 : q / k * k + q % k = q := by rw [Nat.mul_comm]; exact Nat.div_add_mod q k
    have f1 := flat_at h (q / k) (q % k) hm n hd
    have f2 := flat_at h' (q / k) (q % k) hm n hd
    rw [e1] at f1 f2
    rw [f2]
    by_cases hqi : i * k + p = q
    · have hq1 : q / k = i := by
        rw [← hqi, Nat.mul_comm i k, Nat.mul_add_div hk, Nat.div_eq_of_lt hp, Nat.add_zero]
      have hq2 : q % k = p := by
        rw [← hqi, Nat.mul_comm i k, Nat.mul_add_mod, Nat.mod_eq_of_lt hp]
      rw [if_pos hqi, hq1, hq2]
      show _ = (if i = i then (e i).set p v else e i)[p]?
      rw [if_pos rfl, List.getElem?_set_self (by rw [h i]; exact hp), if_pos (by rw [flat_len h n, hqi]; exact hq)]
    · rw [if_neg hqi, f1]
      show _ = (if q / k = i then (e i).set p v else e (q / k))[q % k]?
      by_cases hq1 : q / k = i
      · rw [if_pos hq1, hq1, List.getElem?_set_ne (fun hh => hqi (by rw [hh, ← hq1]; exact e1))]
      · rw [if_neg hq1]
  · have l2 : (flat (fun j => if j = i then (e i).set p v else e j) n)[q]? = none := List.getElem?_eq_none (by rw [flat_len h' n]; omega)
    have l1 : (flat e n)[q]? = none := List.getElem?_eq_none (by rw [flat_len h n]; omega)
    rw [l2, l1]
    by_cases hqi : i * k + p = q
    · exfalso
      have : i * k + k ≤ n * k := by
        rw [← Nat.succ_mul]
        exact Nat.mul_le_mul_right _ hi
      omega
    · rw [if_neg hqi]

theorem val_set2 (v : VValidator) (x : Int) : (celL (sValidator v)).set 80 (.int .u64 x) = celL (sValidator { v with f2 := x }) := by
  show ((List.range 48).map (Seg.get (.by 48 v.f0)) ++ ((List.range 32).map (Seg.get (.by 32 v.f1)) ++ (Value.int .u64 v.f2 :: celL _))).set 80 _ = (List.range 48).map (Seg.get (.by 48 v.f0)) ++ ((List.range 32).map (Seg.get (.by 32 v.f1)) ++ (Value.int .u64 x :: celL _))
  rw [List.set_append_right _ _ (by simp), List.set_append_right _ _ (by simp)]
  simp

theorem val_set3 (v : VValidator) (x : Bool) : (celL (sValidator v)).set 81 (.bool x) = celL (sValidator { v with f3 := x }) := by
  show ((List.range 48).map (Seg.get (.by 48 v.f0)) ++ ((List.range 32).map (Seg.get (.by 32 v.f1)) ++ (Value.int .u64 v.f2 :: Value.bool v.f3 :: celL _))).set 81 _ = (List.range 48).map (Seg.get (.by 48 v.f0)) ++ ((List.range 32).map (Seg.get (.by 32 v.f1)) ++ (Value.int .u64 v.f2 :: Value.bool x :: celL _))
  rw [List.set_append_right _ _ (by simp), List.set_append_right _ _ (by simp)]
  simp

/-- The first k validators changed. -/
def chg (f : VValidator → VValidator) (z : Nat → VValidator) (k j : Nat) : VValidator := if j < k then f (z j) else z j

def ric (v : VValidator) : VValidator := { v with f2 := 32000000000 }

def spa (v : VValidator) : VValidator := { v with f3 := false }

theorem chg_zero (f : VValidator → VValidator) (z : Nat → VValidator) : chg f z 0 = z := funext fun j => if_neg (Nat.not_lt_zero _)

/-- One more validator changed, in memory. -/
theorem own_chg {w : World} {B g n cap i p : Nat} {z : Nat → VValidator} (f : VValidator → VValidator) (u : Value) (hf : ∀ v, (celL (sValidator v)).set p u = celL (sValidator (f v))) (hp : p < 86) (h : w.ownsRow B 57 86 (.slice (some ⟨g, 0, none⟩) n cap) n (flat (fun j => celL (sValidator (chg f z i j))) n)) (hi : i < n) :
    (w.setCell ⟨g, 86 * i + p, none⟩ u).ownsRow B 57 86 (.slice (some ⟨g, 0, none⟩) n cap) n (flat (fun j => celL (sValidator (chg f z (i + 1) j))) n) := by
  have hb : i * 86 + p < n * 86 := by
    have : i * 86 + 86 ≤ n * 86 := by
      rw [← Nat.succ_mul]
      exact Nat.mul_le_mul_right _ hi
    omega
  have h1 := ownSetC h (i * 86 + p) hb u
  rw [flat_set (fun j => by rw [celL_len]; rfl) n i p hi hp, Nat.mul_comm i 86] at h1
  have e : (fun j => if j = i then (celL (sValidator (chg f z i i))).set p u else celL (sValidator (chg f z i j))) = fun j => celL (sValidator (chg f z (i + 1) j)) := funext fun j => by
    unfold chg
    by_cases hj : j = i
    · subst hj
      rw [if_pos rfl, if_neg (Nat.lt_irrefl _), if_pos (Nat.lt_succ_self _), hf]
    · rw [if_neg hj]
      by_cases hj2 : j < i
      · rw [if_pos hj2, if_pos (by omega)]
      · rw [if_neg hj2, if_neg (by omega)]
  rw [e] at h1
  exact h1

/-- The state with its first k validators changed. -/
def ricS (X : VState) (k : Nat) : VState := { X with f11 := ⟨X.f11.a, X.f11.n, X.f11.c, chg ric X.f11.z k⟩ }

theorem ricS_cel (X : VState) (k : Nat) : cel (sState (ricS X k)) = cel (sState X) := rfl

theorem BF.rich {w V : World} {y i g : Nat} {X : VState} (h : BF w y V (ricS X i)) (hy : w.heap.size ≤ y) (hg : X.f11.a = some ⟨g, 0, none⟩) (hi : i < X.f11.n) : BF w y (V.setCell ⟨g, 86 * i + 80, none⟩ (.int .u64 32000000000)) (ricS X (i + 1)) := by
  have o11 : V.ownsRow w.heap.size 57 86 (.slice (some ⟨g, 0, none⟩) X.f11.n X.f11.c) X.f11.n (flat (fun j => celL (sValidator (chg ric X.f11.z i j))) X.f11.n) := by
    have := h.cpd.o11
    rw [show (ricS X i).f11.a = some ⟨g, 0, none⟩ from hg] at this
    exact this
  have n11 := own_chg ric (.int .u64 32000000000) (fun v => val_set2 v _) (by omega) o11 hi
  have hgB : w.heap.size ≤ g := (o11.lt g rfl).1
  obtain ⟨cg, hrg⟩ : ∃ C, V.heap[g]? = some (.cells C 57) := by
    rcases o11.2 with ⟨e, _⟩ | ⟨g', cap', cur, e, h1, h2, _⟩
    · cases e
    · cases e
      exact ⟨cur, h2⟩
  have hk : Kept g V (V.setCell ⟨g, 86 * i + 80, none⟩ (.int .u64 32000000000)) := (Kept.refl g V).setCell _ _
  have hne : y ≠ g := fun e => by
    subst e
    rw [h.row] at hrg
    injection hrg with q
    injection q with _ q2
    exact absurd q2 (by decide)
  refine ⟨h.bel.trans (hk.below hgB h.bel.size), ?_, ⟨?_, ?_, ?_, ?_, ?_, ?_, ?_, h.cpd.d15, h.cpd.d12⟩⟩
  · exact (hk.block y (some_lt h.row) hne).trans h.row
  · exact own_keptB h.cpd.o7 hk (own_ne h.cpd.o7 hrg (by decide))
  · exact own_keptB h.cpd.o9 hk (own_ne h.cpd.o9 hrg (by decide))
  · show World.ownsRow _ _ _ _ (.slice X.f11.a X.f11.n X.f11.c) _ _
    rw [hg]
    exact n11
  · exact own_keptB h.cpd.o12 hk (own_ne h.cpd.o12 hrg (by decide))
  · exact own_keptB h.cpd.o15 hk (own_ne h.cpd.o15 hrg (by decide))
  · exact own_keptB h.cpd.o16 hk (own_ne h.cpd.o16 hrg (by decide))
  · exact own_keptB h.cpd.o21 hk (own_ne h.cpd.o21 hrg (by decide))

/-- A copy of which only some lists are looked at. -/
structure BZ (w : World) (y : Nat) (V : World) (Z : VState) (r : Nat → VValidator) (b c : Nat → Int) : Prop where
  bel : Below w.heap.size w V
  row : V.heap[y]? = some (.cells (cel (sState Z)) 49)
  o11 : V.ownsRow w.heap.size 57 86 (.slice Z.f11.a Z.f11.n Z.f11.c) Z.f11.n (flat (fun i => celL (sValidator (r i))) Z.f11.n)
  o12 : V.ownsRow w.heap.size 22 1 (.slice Z.f12.a Z.f12.n Z.f12.c) Z.f12.n (nl b Z.f12.n)
  o16 : V.ownsRow w.heap.size 5 1 (.slice Z.f16.a Z.f16.n Z.f16.c) Z.f16.n (bl c Z.f16.n)

theorem BZ.cells {w V : World} {y : Nat} {Z Z' : VState} {r : Nat → VValidator} {b c : Nat → Int} (h : BZ w y V Z r b c) (hy : w.heap.size ≤ y) (o : Nat) (l : List Value) (he : putL (cel (sState Z)) o l = cel (sState Z')) (e11 : Z'.f11 = Z.f11) (e12 : Z'.f12 = Z.f12) (e16 : Z'.f16 = Z.f16) : BZ w y (V.setCells y o l) Z' r b c := by
  have hk : Kept y V (V.setCells y o l) := setCells_kept l o (Kept.refl y V)
  refine ⟨h.bel.trans (hk.below hy h.bel.size), (setCells_row l o h.row).trans (congrArg (fun c => some (Obj.cells c 49)) he), ?_, ?_, ?_⟩
  · rw [e11]; exact own_keptB h.o11 hk (own_ne h.o11 h.row (by decide))
  · rw [e12]; exact own_keptB h.o12 hk (own_ne h.o12 h.row (by decide))
  · rw [e16]; exact own_keptB h.o16 hk (own_ne h.o16 h.row (by decide))

theorem BZ.cell {w V : World} {y : Nat} {Z Z' : VState} {r : Nat → VValidator} {b c : Nat → Int} (h : BZ w y V Z r b c) (hy : w.heap.size ≤ y) (o : Nat) (v : Value) (he : (cel (sState Z)).setIfInBounds o v = cel (sState Z')) (e11 : Z'.f11 = Z.f11) (e12 : Z'.f12 = Z.f12) (e16 : Z'.f16 = Z.f16) : BZ w y (V.setCell ⟨y, o, none⟩ v) Z' r b c :=
  h.cells hy o [v] he e11 e12 e16

/-- A round of the changes of a copy's lists. -/
theorem ownBlkC {w : World} {B k n cap g : Nat} {t : TypeId} {xs : List Value} (h : w.ownsRow B t k (.slice (some ⟨g, 0, none⟩) n cap) n xs) : ∃ C, w.heap[g]? = some (.cells C t) := by
  rcases h.2 with ⟨e, _⟩ | ⟨g', cap', cur, e, h1, h2, _⟩
  · cases e
  · cases e
    exact ⟨cur, h2⟩

theorem nl_set (z : Nat → Int) (n i : Nat) (v : Int) : (nl z n).set i (.int .u64 v) = nl (fun j => if j = i then v else z j) n := by
  apply List.ext_getElem?
  intro j
  unfold nl
  rw [List.getElem?_set, List.getElem?_map, List.getElem?_map, List.length_map, List.length_range]
  by_cases hj : j < n
  · rw [List.getElem?_range hj]
    by_cases hi : i = j
    · subst hi
      rw [if_pos rfl, if_pos hj, Option.map_some]
      exact congrArg (fun x => some (Value.int .u64 x)) (if_pos rfl).symm
    · rw [if_neg hi, Option.map_some, Option.map_some]
      exact congrArg (fun x => some (Value.int .u64 x)) (if_neg (show ¬ j = i from fun e => hi e.symm)).symm
  · rw [List.getElem?_eq_none (by rw [List.length_range]; omega)]
    by_cases hi : i = j
    · subst hi
      rw [if_pos rfl, if_neg hj]
      rfl
    · rw [if_neg hi]
      rfl

theorem bl_set (z : Nat → Int) (n i : Nat) (v : Int) : (bl z n).set i (.int .u8 v) = bl (fun j => if j = i then v else z j) n := by
  apply List.ext_getElem?
  intro j
  unfold bl
  rw [List.getElem?_set, List.getElem?_map, List.getElem?_map, List.length_map, List.length_range]
  by_cases hj : j < n
  · rw [List.getElem?_range hj]
    by_cases hi : i = j
    · subst hi
      rw [if_pos rfl, if_pos hj, Option.map_some]
      exact congrArg (fun x => some (Value.int .u8 x)) (if_pos rfl).symm
    · rw [if_neg hi, Option.map_some, Option.map_some]
      exact congrArg (fun x => some (Value.int .u8 x)) (if_neg (show ¬ j = i from fun e => hi e.symm)).symm
  · rw [List.getElem?_eq_none (by rw [List.length_range]; omega)]
    by_cases hi : i = j
    · subst hi
      rw [if_pos rfl, if_neg hj]
      rfl
    · rw [if_neg hi]
      rfl

theorem kept_row {w V : World} {g y : Nat} {i : Nat} {v : Value} {C D : Array Value} {t t' : TypeId} (hy : V.heap[y]? = some (.cells D t')) (hg : V.heap[g]? = some (.cells C t)) (ht : t ≠ t') : (V.setCell ⟨g, i, none⟩ v).heap[y]? = some (.cells D t') := by
  have hne : y ≠ g := fun e => by
    subst e
    rw [hy] at hg
    injection hg with q
    injection q with _ q2
    exact absurd q2.symm ht
  exact (((Kept.refl g V).setCell i v).block y (some_lt hy) hne).trans hy

theorem BZ.bal {w V : World} {y i g : Nat} {Z : VState} {r : Nat → VValidator} {b c : Nat → Int} (h : BZ w y V Z r b c) (hy : w.heap.size ≤ y) (hg : Z.f12.a = some ⟨g, 0, none⟩) (hi : i < Z.f12.n) (x : Int) : BZ w y (V.setCell ⟨g, i, none⟩ (.int .u64 x)) Z r (fun j => if j = i then x else b j) c := by
  have o12 := h.o12
  rw [hg] at o12
  have n12 := ownSetC o12 i (by omega) (.int .u64 x)
  rw [nl_set] at n12
  obtain ⟨C, hrg⟩ := ownBlkC o12
  have hk : Kept g V (V.setCell ⟨g, i, none⟩ (.int .u64 x)) := (Kept.refl g V).setCell _ _
  exact ⟨h.bel.trans (hk.below (o12.lt g rfl).1 h.bel.size), kept_row (w := w) h.row hrg (by decide), own_keptB h.o11 hk (own_ne h.o11 hrg (by decide)), by rw [hg]; exact n12, own_keptB h.o16 hk (own_ne h.o16 hrg (by decide))⟩

theorem BZ.cur {w V : World} {y i g : Nat} {Z : VState} {r : Nat → VValidator} {b c : Nat → Int} (h : BZ w y V Z r b c) (hy : w.heap.size ≤ y) (hg : Z.f16.a = some ⟨g, 0, none⟩) (hi : i < Z.f16.n) (x : Int) : BZ w y (V.setCell ⟨g, i, none⟩ (.int .u8 x)) Z r b (fun j => if j = i then x else c j) := by
  have o16 := h.o16
  rw [hg] at o16
  have n16 := ownSetC o16 i (by omega) (.int .u8 x)
  rw [bl_set] at n16
  obtain ⟨C, hrg⟩ := ownBlkC o16
  have hk : Kept g V (V.setCell ⟨g, i, none⟩ (.int .u8 x)) := (Kept.refl g V).setCell _ _
  exact ⟨h.bel.trans (hk.below (o16.lt g rfl).1 h.bel.size), kept_row (w := w) h.row hrg (by decide), own_keptB h.o11 hk (own_ne h.o11 hrg (by decide)), own_keptB h.o12 hk (own_ne h.o12 hrg (by decide)), by rw [hg]; exact n16⟩

theorem BZ.sla {w V : World} {y i g : Nat} {Z : VState} {z : Nat → VValidator} {b c : Nat → Int} (h : BZ w y V Z (chg spa z i) b c) (hy : w.heap.size ≤ y) (hg : Z.f11.a = some ⟨g, 0, none⟩) (hi : i < Z.f11.n) : BZ w y (V.setCell ⟨g, 86 * i + 81, none⟩ (.bool false)) Z (chg spa z (i + 1)) b c := by
  have o11 := h.o11
  rw [hg] at o11
  have n11 := own_chg spa (.bool false) (fun v => val_set3 v _) (by omega) o11 hi
  obtain ⟨C, hrg⟩ := ownBlkC o11
  have hk : Kept g V (V.setCell ⟨g, 86 * i + 81, none⟩ (.bool false)) := (Kept.refl g V).setCell _ _
  exact ⟨h.bel.trans (hk.below (o11.lt g rfl).1 h.bel.size), kept_row (w := w) h.row hrg (by decide), by rw [hg]; exact n11, own_keptB h.o12 hk (own_ne h.o12 hrg (by decide)), own_keptB h.o16 hk (own_ne h.o16 hrg (by decide))⟩

end Go.Proofs.YtpabbglbaimadaaDoor
