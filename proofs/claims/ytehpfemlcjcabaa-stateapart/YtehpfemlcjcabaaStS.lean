/-
  What stands while a copy of a state is changed.
-/

import Derived.Test.YtehpfemlcjcabaaStO
import Derived.Test.YtehpfemlcjcabaaStQ
import Derived.Test.YtehpfemlcjcabaaStR
import Derived.BigRegion

namespace Go.Proofs.Ytehpfemlcjcabaa

open Go.RowKit

set_option linter.unusedVariables false

set_option linter.unusedSimpArgs false

set_option maxRecDepth 20000

structure BF (w : World) (y : Nat) (V : World) (Y : VState) : Prop where
  bel : Below w.heap.size w V
  row : V.heap[y]? = some (.cells (cel (sState Y)) 49)
  cpd : CpdF w.heap.size V Y

theorem own_byF {w : World} {B : Nat} {a : Option Addr} {n c : Nat} {z : Nat → Int} (h : w.ownsRow B 5 1 (.slice a n c) n (bl z n)) : Bys w a n c z := by
  obtain ⟨a', c', e, hb⟩ := own_at h
  cases e
  exact hb

theorem own_rtF {w : World} {B : Nat} {a : Option Addr} {n c : Nat} {z : Nat → Int} (h : w.ownsRow B 24 32 (.slice a n c) n (bl z (32 * n))) : Rts w a n c z := by
  rcases h.2 with ⟨hv, h0⟩ | ⟨g, cap, cur, hv, hB, hg, h1, h2, hs, ht⟩
  · cases hv
    exact .inl ⟨rfl, rfl, rfl⟩
  · cases hv
    refine .inr (.inr ⟨g, 0, rfl, h1, some_lt hg, fun j hj => ?_⟩)
    have := bl_at z (32 * n) j hj
    rw [← ht, List.getElem?_take_of_lt (by omega), Array.getElem?_toList] at this
    rw [Nat.zero_add, row_cell hg, this]

theorem BF.inW {w : World} {y : Nat} {V : World} {Y : VState} (h : BF w y V Y) : InW V Y :=
  ⟨own_rtF h.cpd.o7, own_els h.cpd.o9 (fun i => by rw [celL_len]; rfl), own_els h.cpd.o11 (fun i => by rw [celL_len]; rfl), own_nms h.cpd.o12, own_byF h.cpd.o15, own_byF h.cpd.o16, own_nms h.cpd.o21⟩

theorem CpdF.below {B : Nat} {V V' : World} {Y : VState} (h : CpdF B V Y) (hb : Below V.heap.size V V') : CpdF B V' Y :=
  ⟨ownsRow_below h.o7 hb, ownsRow_below h.o9 hb, ownsRow_below h.o11 hb, ownsRow_below h.o12 hb, ownsRow_below h.o15 hb, ownsRow_below h.o16 hb, ownsRow_below h.o21 hb, h.d15, h.d12⟩

theorem BF.below {w V V' : World} {y : Nat} {Y : VState} (h : BF w y V Y) (hb : Below V.heap.size V V') : BF w y V' Y :=
  ⟨h.bel.trans (hb.mono h.bel.size), (hb.block y (some_lt h.row)).trans h.row, h.cpd.below hb⟩

theorem BF.drew {w V : World} {y : Nat} {Y : VState} (h : BF w y V Y) : BF w y V.drew Y := h.below ((Below.refl _ _).drew)

/-- A cell of the state itself changed. -/
theorem BF.setY {w V : World} {y : Nat} {Y Y' : VState} (h : BF w y V Y) (hy : w.heap.size ≤ y) (i : Nat) (v : Value) (he : (cel (sState Y)).setIfInBounds i v = cel (sState Y')) (e7 : Y'.f7 = Y.f7) (e9 : Y'.f9 = Y.f9) (e11 : Y'.f11 = Y.f11) (e12 : Y'.f12 = Y.f12) (e15 : Y'.f15 = Y.f15) (e16 : Y'.f16 = Y.f16) (e21 : Y'.f21 = Y.f21) : BF w y (V.setCell ⟨y, i, none⟩ v) Y' := by
  have hk : Kept y V (V.setCell ⟨y, i, none⟩ v) := (Kept.refl y V).setCell _ _
  refine ⟨h.bel.trans (hk.below hy h.bel.size), (row_set h.row i v).trans (congrArg (fun c => some (Obj.cells c 49)) he), ⟨?_, ?_, ?_, ?_, ?_, ?_, ?_, ?_, ?_⟩⟩
  · rw [e7]
    exact own_keptB h.cpd.o7 hk (own_ne h.cpd.o7 h.row (by decide))
  · rw [e9]
    exact own_keptB h.cpd.o9 hk (own_ne h.cpd.o9 h.row (by decide))
  · rw [e11]
    exact own_keptB h.cpd.o11 hk (own_ne h.cpd.o11 h.row (by decide))
  · rw [e12]
    exact own_keptB h.cpd.o12 hk (own_ne h.cpd.o12 h.row (by decide))
  · rw [e15]
    exact own_keptB h.cpd.o15 hk (own_ne h.cpd.o15 h.row (by decide))
  · rw [e16]
    exact own_keptB h.cpd.o16 hk (own_ne h.cpd.o16 h.row (by decide))
  · rw [e21]
    exact own_keptB h.cpd.o21 hk (own_ne h.cpd.o21 h.row (by decide))
  · rw [e15, e16]
    exact h.cpd.d15
  · rw [e12, e21]
    exact h.cpd.d12

/-- A row kept while another one grows. -/
theorem own_grown {w w' : World} {B B' k k' : Nat} {t t' : TypeId} {v v' : Value} {n n' : Nat} {xs xs' : List Value} (h : w.ownsRow B t k v n xs) (h' : w.ownsRow B' t' k' v' n' xs') (hg : w.grownBy w' v'.ownBlock) (hne : t ≠ t' ∨ ∀ b, v.ownBlock = some b → v'.ownBlock ≠ some b) : w'.ownsRow B t k v n xs := by
  refine h.kept hg ?_
  rcases h'.2 with ⟨h0, _⟩ | ⟨g, cap, cur, h0, _, hc, _⟩
  · rw [h0]
    cases v.ownBlock with
    | none => exact .inl rfl
    | some b => exact .inr (fun e => by cases e)
  · rw [h0]
    refine .inr ?_
    rcases hne with ht | hd
    · exact own_ne h hc ht
    · exact fun e => hd g e (by rw [h0]; rfl)

theorem slice_own {a : Option Addr} {n c b : Nat} (h : Value.ownBlock (.slice a n c) = some b) : ∃ ad, a = some ad ∧ ad.block = b := by
  cases a with
  | none => cases h
  | some ad => exact ⟨ad, rfl, by cases h; rfl⟩

theorem bl_zer (z : Nat → Int) (n k : Nat) : bl z n ++ bl (fun _ => 0) k = bl (fun j => if j < n then z j else 0) (n + k) := by
  apply List.ext_getElem?
  intro j
  by_cases h : j < n
  · rw [List.getElem?_append_left (by rw [bl_len]; exact h), bl_at _ _ _ h, bl_at _ _ _ (by omega), if_pos h]
  · rw [List.getElem?_append_right (by rw [bl_len]; omega), bl_len]
    by_cases h2 : j < n + k
    · rw [bl_at _ _ _ (by omega), bl_at _ _ _ h2, if_neg h]
    · rw [List.getElem?_eq_none (by rw [bl_len]; omega), List.getElem?_eq_none (by rw [bl_len]; omega)]

/-- One more in the list 7. -/
def mor7 (Y : VState) (a : Option Addr) (c : Nat) : VState := { Y with f7 := ⟨a, Y.f7.n + 1, c, fun j => if j < 32 * Y.f7.n then Y.f7.z j else 0⟩ }

theorem BF.app7 {w V W : World} {y : Nat} {Y : VState} {a : Option Addr} {c : Nat} (h : BF w y V Y) (hy : w.heap.size ≤ y) (ho : W.ownsRow w.heap.size 24 32 (.slice a (Y.f7.n + 1) c) (Y.f7.n + 1) (bl Y.f7.z (32 * Y.f7.n) ++ bl (fun _ => 0) 32)) (hg : V.grownBy W (Value.ownBlock (.slice Y.f7.a Y.f7.n Y.f7.c))) :
    Below w.heap.size w (W.setCell ⟨y, 653, none⟩ (.slice a (Y.f7.n + 1) c)) ∧ (W.setCell ⟨y, 653, none⟩ (.slice a (Y.f7.n + 1) c)).heap[y]? = some (.cells (cel (sState (mor7 Y a c))) 49) ∧ InW (W.setCell ⟨y, 653, none⟩ (.slice a (Y.f7.n + 1) c)) (mor7 Y a c) ∧ (∃ v, W.cell? ⟨y, 653, none⟩ = some v) ∧ W.frozen? ⟨y, 653, none⟩ = false := by
  have hne : some y ≠ Value.ownBlock (.slice Y.f7.a Y.f7.n Y.f7.c) := fun e => own_ne h.cpd.o7 h.row (by decide) e.symm
  have hrow : W.heap[y]? = some (.cells (cel (sState Y)) 49) := (hg.block y (some_lt h.row) hne).trans h.row
  have hk : Kept y W (W.setCell ⟨y, 653, none⟩ (.slice a (Y.f7.n + 1) c)) := (Kept.refl y W).setCell _ _
  have hbW : Below w.heap.size w W := by
    refine ⟨hg.os.trans h.bel.os, hg.tape.trans h.bel.tape, hg.output.trans h.bel.output, Nat.le_trans h.bel.size hg.size, fun k hk' => (hg.block k (Nat.lt_of_lt_of_le hk' h.bel.size) (fun e => ?_)).trans (h.bel.block k hk')⟩
    have := (h.cpd.o7.lt k e.symm).1
    omega
  rw [bl_zer, show 32 * Y.f7.n + 32 = 32 * (Y.f7.n + 1) by omega] at ho
  have g7 := own_keptB ho hk (own_ne ho hrow (by decide))
  have p9 := own_grown h.cpd.o9 h.cpd.o7 hg (.inl (by decide))
  have g9 := own_keptB p9 hk (own_ne p9 hrow (by decide))
  have p11 := own_grown h.cpd.o11 h.cpd.o7 hg (.inl (by decide))
  have g11 := own_keptB p11 hk (own_ne p11 hrow (by decide))
  have p12 := own_grown h.cpd.o12 h.cpd.o7 hg (.inl (by decide))
  have g12 := own_keptB p12 hk (own_ne p12 hrow (by decide))
  have p15 := own_grown h.cpd.o15 h.cpd.o7 hg (.inl (by decide))
  have g15 := own_keptB p15 hk (own_ne p15 hrow (by decide))
  have p16 := own_grown h.cpd.o16 h.cpd.o7 hg (.inl (by decide))
  have g16 := own_keptB p16 hk (own_ne p16 hrow (by decide))
  have p21 := own_grown h.cpd.o21 h.cpd.o7 hg (.inl (by decide))
  have g21 := own_keptB p21 hk (own_ne p21 hrow (by decide))
  refine ⟨hbW.trans (hk.below hy hbW.size), (row_set hrow 653 _).trans (congrArg (fun c => some (Obj.cells c 49)) (st_7 Y a (Y.f7.n + 1) c)), ⟨own_rtF g7, own_els g9 (fun i => by rw [celL_len]; rfl), own_els g11 (fun i => by rw [celL_len]; rfl), own_nms g12, own_byF g15, own_byF g16, own_nms g21⟩, some_cell hrow (by omega), row_frozen hrow _⟩

/-- One more in the list 12. -/
def mor12 (Y : VState) (a : Option Addr) (c : Nat) : VState := { Y with f12 := ⟨a, Y.f12.n + 1, c, fun j => if j < Y.f12.n then Y.f12.z j else 0⟩ }

theorem BF.app12 {w V W : World} {y : Nat} {Y : VState} {a : Option Addr} {c : Nat} (h : BF w y V Y) (hy : w.heap.size ≤ y) (ho : W.ownsRow w.heap.size 22 1 (.slice a (Y.f12.n + 1) c) (Y.f12.n + 1) (nl Y.f12.z Y.f12.n ++ [.int .u64 0])) (hg : V.grownBy W (Value.ownBlock (.slice Y.f12.a Y.f12.n Y.f12.c))) :
    Below w.heap.size w (W.setCell ⟨y, 722, none⟩ (.slice a (Y.f12.n + 1) c)) ∧ (W.setCell ⟨y, 722, none⟩ (.slice a (Y.f12.n + 1) c)).heap[y]? = some (.cells (cel (sState (mor12 Y a c))) 49) ∧ InW (W.setCell ⟨y, 722, none⟩ (.slice a (Y.f12.n + 1) c)) (mor12 Y a c) ∧ (∃ v, W.cell? ⟨y, 722, none⟩ = some v) ∧ W.frozen? ⟨y, 722, none⟩ = false := by
  have hne : some y ≠ Value.ownBlock (.slice Y.f12.a Y.f12.n Y.f12.c) := fun e => own_ne h.cpd.o12 h.row (by decide) e.symm
  have hrow : W.heap[y]? = some (.cells (cel (sState Y)) 49) := (hg.block y (some_lt h.row) hne).trans h.row
  have hk : Kept y W (W.setCell ⟨y, 722, none⟩ (.slice a (Y.f12.n + 1) c)) := (Kept.refl y W).setCell _ _
  have hbW : Below w.heap.size w W := by
    refine ⟨hg.os.trans h.bel.os, hg.tape.trans h.bel.tape, hg.output.trans h.bel.output, Nat.le_trans h.bel.size hg.size, fun k hk' => (hg.block k (Nat.lt_of_lt_of_le hk' h.bel.size) (fun e => ?_)).trans (h.bel.block k hk')⟩
    have := (h.cpd.o12.lt k e.symm).1
    omega
  rw [nl_snoc] at ho
  have p7 := own_grown h.cpd.o7 h.cpd.o12 hg (.inl (by decide))
  have g7 := own_keptB p7 hk (own_ne p7 hrow (by decide))
  have p9 := own_grown h.cpd.o9 h.cpd.o12 hg (.inl (by decide))
  have g9 := own_keptB p9 hk (own_ne p9 hrow (by decide))
  have p11 := own_grown h.cpd.o11 h.cpd.o12 hg (.inl (by decide))
  have g11 := own_keptB p11 hk (own_ne p11 hrow (by decide))
  have g12 := own_keptB ho hk (own_ne ho hrow (by decide))
  have p15 := own_grown h.cpd.o15 h.cpd.o12 hg (.inl (by decide))
  have g15 := own_keptB p15 hk (own_ne p15 hrow (by decide))
  have p16 := own_grown h.cpd.o16 h.cpd.o12 hg (.inl (by decide))
  have g16 := own_keptB p16 hk (own_ne p16 hrow (by decide))
  have p21 := own_grown h.cpd.o21 h.cpd.o12 hg (.inr (fun b h1 h2 => by
      obtain ⟨ad, e1, e2⟩ := slice_own h1
      obtain ⟨ad', e3, e4⟩ := slice_own h2
      exact h.cpd.d12 ad' ad e3 e1 (e4.trans e2.symm)))
  have g21 := own_keptB p21 hk (own_ne p21 hrow (by decide))
  refine ⟨hbW.trans (hk.below hy hbW.size), (row_set hrow 722 _).trans (congrArg (fun c => some (Obj.cells c 49)) (st_12 Y a (Y.f12.n + 1) c)), ⟨own_rtF g7, own_els g9 (fun i => by rw [celL_len]; rfl), own_els g11 (fun i => by rw [celL_len]; rfl), own_nms g12, own_byF g15, own_byF g16, own_nms g21⟩, some_cell hrow (by omega), row_frozen hrow _⟩

/-- One more in the list 16. -/
def mor16 (Y : VState) (a : Option Addr) (c : Nat) : VState := { Y with f16 := ⟨a, Y.f16.n + 1, c, fun j => if j < Y.f16.n then Y.f16.z j else 0⟩ }

theorem BF.app16 {w V W : World} {y : Nat} {Y : VState} {a : Option Addr} {c : Nat} (h : BF w y V Y) (hy : w.heap.size ≤ y) (ho : W.ownsRow w.heap.size 5 1 (.slice a (Y.f16.n + 1) c) (Y.f16.n + 1) (bl Y.f16.z Y.f16.n ++ bl (fun _ => 0) 1)) (hg : V.grownBy W (Value.ownBlock (.slice Y.f16.a Y.f16.n Y.f16.c))) :
    Below w.heap.size w (W.setCell ⟨y, 988, none⟩ (.slice a (Y.f16.n + 1) c)) ∧ (W.setCell ⟨y, 988, none⟩ (.slice a (Y.f16.n + 1) c)).heap[y]? = some (.cells (cel (sState (mor16 Y a c))) 49) ∧ InW (W.setCell ⟨y, 988, none⟩ (.slice a (Y.f16.n + 1) c)) (mor16 Y a c) ∧ (∃ v, W.cell? ⟨y, 988, none⟩ = some v) ∧ W.frozen? ⟨y, 988, none⟩ = false := by
  have hne : some y ≠ Value.ownBlock (.slice Y.f16.a Y.f16.n Y.f16.c) := fun e => own_ne h.cpd.o16 h.row (by decide) e.symm
  have hrow : W.heap[y]? = some (.cells (cel (sState Y)) 49) := (hg.block y (some_lt h.row) hne).trans h.row
  have hk : Kept y W (W.setCell ⟨y, 988, none⟩ (.slice a (Y.f16.n + 1) c)) := (Kept.refl y W).setCell _ _
  have hbW : Below w.heap.size w W := by
    refine ⟨hg.os.trans h.bel.os, hg.tape.trans h.bel.tape, hg.output.trans h.bel.output, Nat.le_trans h.bel.size hg.size, fun k hk' => (hg.block k (Nat.lt_of_lt_of_le hk' h.bel.size) (fun e => ?_)).trans (h.bel.block k hk')⟩
    have := (h.cpd.o16.lt k e.symm).1
    omega
  rw [bl_zer] at ho
  have p7 := own_grown h.cpd.o7 h.cpd.o16 hg (.inl (by decide))
  have g7 := own_keptB p7 hk (own_ne p7 hrow (by decide))
  have p9 := own_grown h.cpd.o9 h.cpd.o16 hg (.inl (by decide))
  have g9 := own_keptB p9 hk (own_ne p9 hrow (by decide))
  have p11 := own_grown h.cpd.o11 h.cpd.o16 hg (.inl (by decide))
  have g11 := own_keptB p11 hk (own_ne p11 hrow (by decide))
  have p12 := own_grown h.cpd.o12 h.cpd.o16 hg (.inl (by decide))
  have g12 := own_keptB p12 hk (own_ne p12 hrow (by decide))
  have p15 := own_grown h.cpd.o15 h.cpd.o16 hg (.inr (fun b h1 h2 => by
      obtain ⟨ad, e1, e2⟩ := slice_own h1
      obtain ⟨ad', e3, e4⟩ := slice_own h2
      exact h.cpd.d15 ad ad' e1 e3 (e2.trans e4.symm)))
  have g15 := own_keptB p15 hk (own_ne p15 hrow (by decide))
  have g16 := own_keptB ho hk (own_ne ho hrow (by decide))
  have p21 := own_grown h.cpd.o21 h.cpd.o16 hg (.inl (by decide))
  have g21 := own_keptB p21 hk (own_ne p21 hrow (by decide))
  refine ⟨hbW.trans (hk.below hy hbW.size), (row_set hrow 988 _).trans (congrArg (fun c => some (Obj.cells c 49)) (st_16 Y a (Y.f16.n + 1) c)), ⟨own_rtF g7, own_els g9 (fun i => by rw [celL_len]; rfl), own_els g11 (fun i => by rw [celL_len]; rfl), own_nms g12, own_byF g15, own_byF g16, own_nms g21⟩, some_cell hrow (by omega), row_frozen hrow _⟩

/-- A byte of a field changed in memory. -/
theorem cel_by_set (l1 l2 : List Seg) (N p : Nat) (g : Nat → Int) (v : Int) (h : p < N) : (cel (l1 ++ [.by N g] ++ l2)).setIfInBounds (slen l1 + p) (.int .u8 v) = cel (l1 ++ [.by N (fun j => if j = p then v else g j)] ++ l2) := by
  have e : ∀ u, celL [.by N u] = bl u N := fun u => by
    show (List.range N).map _ ++ [] = _
    rw [List.append_nil]
    rfl
  have hb : (bl g N).set p (.int .u8 v) = bl (fun j => if j = p then v else g j) N := by
    apply List.ext_getElem?
    intro j
    rw [List.getElem?_set]
    by_cases h1 : j < N
    · by_cases h2 : p = j
      · subst h2
        rw [if_pos rfl, if_pos (by rw [bl_len]; exact h), bl_at _ _ _ h, if_pos rfl]
      · rw [if_neg h2, bl_at _ _ _ h1, bl_at _ _ _ h1, if_neg (fun e => h2 e.symm)]
    · rw [if_neg (by omega), List.getElem?_eq_none (by rw [bl_len]; omega), List.getElem?_eq_none (by rw [bl_len]; omega)]
  unfold cel
  rw [celL_app, celL_app, celL_app, celL_app, e, e, ← hb, ← celL_len l1]
  simp only [List.setIfInBounds_toArray, List.append_assoc]
  rw [List.set_append_right _ _ (by omega), Nat.add_sub_cancel_left, List.set_append_left _ _ (by rw [bl_len]; exact h)]

theorem st_13 (x : VState) (p : Nat) (hp : p < 256) (v : Int) : (cel (sState x)).setIfInBounds (723 + p) (.int .u8 v) = cel (sState { x with f13 := fun j => if j = p then v else x.f13 j }) := by
  have e := cel_by_set ((sState x).take 21) ((sState x).drop 22) 256 p x.f13 v hp
  rw [show slen ((sState x).take 21) = 723 by kernel_rfl, show (sState x).take 21 ++ [Seg.by 256 x.f13] ++ (sState x).drop 22 = sState x by kernel_rfl, show ∀ u, (sState x).take 21 ++ [Seg.by 256 u] ++ (sState x).drop 22 = sState { x with f13 := u } from fun u => by kernel_rfl] at e
  exact e

theorem st_23 (x : VState) (p : Nat) (hp : p < 48) (v : Int) : (cel (sState x)).setIfInBounds (1909 + p) (.int .u8 v) = cel (sState { x with f23 := { x.f23 with f1 := fun j => if j = p then v else x.f23.f1 j } }) := by
  have e := cel_by_set ((sState x).take 46) ((sState x).drop 47) 48 p x.f23.f1 v hp
  rw [show slen ((sState x).take 46) = 1909 by kernel_rfl, show (sState x).take 46 ++ [Seg.by 48 x.f23.f1] ++ (sState x).drop 47 = sState x by kernel_rfl, show ∀ u, (sState x).take 46 ++ [Seg.by 48 u] ++ (sState x).drop 47 = sState { x with f23 := { x.f23 with f1 := u } } from fun u => by kernel_rfl] at e
  exact e

theorem st_20 (x : VState) (n : Int) : (cel (sState x)).setIfInBounds 1059 (.int .u64 n) = cel (sState { x with f20 := { x.f20 with f0 := n } }) := by
  have e := cel_set1 ((sState x).take 40) (.nu x.f20.f0) (.nu n) ((sState x).drop 41) rfl rfl
  rw [show slen ((sState x).take 40) = 1059 by kernel_rfl, show (sState x).take 40 ++ [Seg.nu x.f20.f0] ++ (sState x).drop 41 = sState x by kernel_rfl, show (sState x).take 40 ++ [Seg.nu n] ++ (sState x).drop 41 = sState { x with f20 := { x.f20 with f0 := n } } by kernel_rfl] at e
  exact e

theorem st_17_0 (x : VState) (b : Bool) : (cel (sState x)).setIfInBounds 989 (.bool b) = cel (sState { x with f17 := fun j => if j = 0 then b else x.f17 j }) := by
  have e := cel_set1 ((sState x).take 32) (.bo (x.f17 0)) (.bo b) ((sState x).drop 33) rfl rfl
  rw [show slen ((sState x).take 32) = 989 by kernel_rfl, show (sState x).take 32 ++ [Seg.bo (x.f17 0)] ++ (sState x).drop 33 = sState x by kernel_rfl, show (sState x).take 32 ++ [Seg.bo b] ++ (sState x).drop 33 = sState { x with f17 := fun j => if j = 0 then b else x.f17 j } by kernel_rfl] at e
  exact e

theorem st_17_1 (x : VState) (b : Bool) : (cel (sState x)).setIfInBounds 990 (.bool b) = cel (sState { x with f17 := fun j => if j = 1 then b else x.f17 j }) := by
  have e := cel_set1 ((sState x).take 33) (.bo (x.f17 1)) (.bo b) ((sState x).drop 34) rfl rfl
  rw [show slen ((sState x).take 33) = 990 by kernel_rfl, show (sState x).take 33 ++ [Seg.bo (x.f17 1)] ++ (sState x).drop 34 = sState x by kernel_rfl, show (sState x).take 33 ++ [Seg.bo b] ++ (sState x).drop 34 = sState { x with f17 := fun j => if j = 1 then b else x.f17 j } by kernel_rfl] at e
  exact e

theorem st_17_2 (x : VState) (b : Bool) : (cel (sState x)).setIfInBounds 991 (.bool b) = cel (sState { x with f17 := fun j => if j = 2 then b else x.f17 j }) := by
  have e := cel_set1 ((sState x).take 34) (.bo (x.f17 2)) (.bo b) ((sState x).drop 35) rfl rfl
  rw [show slen ((sState x).take 34) = 991 by kernel_rfl, show (sState x).take 34 ++ [Seg.bo (x.f17 2)] ++ (sState x).drop 35 = sState x by kernel_rfl, show (sState x).take 34 ++ [Seg.bo b] ++ (sState x).drop 35 = sState { x with f17 := fun j => if j = 2 then b else x.f17 j } by kernel_rfl] at e
  exact e

theorem st_17_3 (x : VState) (b : Bool) : (cel (sState x)).setIfInBounds 992 (.bool b) = cel (sState { x with f17 := fun j => if j = 3 then b else x.f17 j }) := by
  have e := cel_set1 ((sState x).take 35) (.bo (x.f17 3)) (.bo b) ((sState x).drop 36) rfl rfl
  rw [show slen ((sState x).take 35) = 992 by kernel_rfl, show (sState x).take 35 ++ [Seg.bo (x.f17 3)] ++ (sState x).drop 36 = sState x by kernel_rfl, show (sState x).take 35 ++ [Seg.bo b] ++ (sState x).drop 36 = sState { x with f17 := fun j => if j = 3 then b else x.f17 j } by kernel_rfl] at e
  exact e

theorem st_17 (x : VState) (k : Nat) (hk : k < 4) (b : Bool) : (cel (sState x)).setIfInBounds (989 + k) (.bool b) = cel (sState { x with f17 := fun j => if j = k then b else x.f17 j }) := by
  rcases (by omega : k = 0 ∨ k = 1 ∨ k = 2 ∨ k = 3) with rfl | rfl | rfl | rfl
  · exact st_17_0 x b
  · exact st_17_1 x b
  · exact st_17_2 x b
  · exact st_17_3 x b

theorem bit_at {w : World} {g : Nat} {x : VState} {t : TypeId} (h : w.heap[g]? = some (.cells (cel (sState x)) t)) (k : Nat) (hk : k < 4) : w.cell? ⟨g, 989 + k, none⟩ = some (.bool (x.f17 k)) := by
  rcases (by omega : k = 0 ∨ k = 1 ∨ k = 2 ∨ k = 3) with rfl | rfl | rfl | rfl
  · exact cS17_0 h
  · exact cS17_1 h
  · exact cS17_2 h
  · exact cS17_3 h

theorem mix_at {w : World} {g : Nat} {x : VState} {t : TypeId} (h : w.heap[g]? = some (.cells (cel (sState x)) t)) (p : Nat) (hp : p < 256) : w.cell? ⟨g, 723 + p, none⟩ = some (.int .u8 (x.f13 p)) := by
  obtain ⟨b, off, e, _, _, hc⟩ := bys_at (cS13 h) (by omega)
  cases e
  exact hc p hp

theorem sum_at {w : World} {g : Nat} {x : VState} {t : TypeId} (h : w.heap[g]? = some (.cells (cel (sState x)) t)) (p : Nat) (hp : p < 48) : w.cell? ⟨g, 1909 + p, none⟩ = some (.int .u8 (x.f23.f1 p)) := by
  have hb : Bys w (some ⟨g, 1909, none⟩) 48 48 x.f23.f1 := seg_bys h 46 48 x.f23.f1 (by kernel_rfl) 1909 (by kernel_rfl) (by omega)
  obtain ⟨b, off, e, _, _, hc⟩ := bys_at hb (by omega)
  cases e
  exact hc p hp

theorem okF_sim {x X : VState} (h : SimF x X) (hx : OkState x) : OkState X := by
  refine ⟨by rw [h.e0]; exact hx.o0, by rw [h.e1]; exact hx.o1, by rw [h.e2]; exact hx.o2, by rw [h.e3]; exact hx.o3, by rw [h.e4]; exact hx.o4, by rw [h.e5]; exact hx.o5, by rw [h.e6]; exact hx.o6, fun j hj => by rw [h.z7]; exact hx.o7 j (by rw [← h.l7]; exact hj), by rw [h.e8]; exact hx.o8, fun j hj => by rw [h.z9]; exact hx.o9 j (by rw [← h.l9]; exact hj), by rw [h.e10]; exact hx.o10, fun j hj => by rw [h.z11]; exact hx.o11 j (by rw [← h.l11]; exact hj), fun j hj => by rw [h.z12]; exact hx.o12 j (by rw [← h.l12]; exact hj), by rw [h.e13]; exact hx.o13, by rw [h.e14]; exact hx.o14, fun j hj => by rw [h.z15]; exact hx.o15 j (by rw [← h.l15]; exact hj), fun j hj => by rw [h.z16]; exact hx.o16 j (by rw [← h.l16]; exact hj), by rw [h.e18]; exact hx.o18, by rw [h.e19]; exact hx.o19, by rw [h.e20]; exact hx.o20, fun j hj => by rw [h.z21]; exact hx.o21 j (by rw [← h.l21]; exact hj), by rw [h.e22]; exact hx.o22, by rw [h.e23]; exact hx.o23⟩

theorem mS_sim {x X : VState} (h : SimF x X) : qS X = qS x := by
  unfold qS
  rw [h.e0, h.e1, h.e2, h.e3, h.e4, h.e5, h.e6, h.l7, h.z7, h.e8, h.l9, h.z9, h.e10, h.l11, h.z11, h.l12, h.z12, h.e13, h.e14, h.l15, h.z15, h.l16, h.z16, h.e17, h.e18, h.e19, h.e20, h.l21, h.z21, h.e22, h.e23]

theorem fit_sim {x X : VState} (h : SimF x X) : fitB X = fitB x := by
  unfold fitB
  rw [h.l7, h.l9, h.l11, h.l12, h.l15, h.l16, h.l21]

end Go.Proofs.Ytehpfemlcjcabaa
